/-
  FormatOnce: the frame.
-/
import Derived.Test.YtclmgfcdnokaiaaFormatOnce7Pb
import Derived.MapKept
import Derived.Test.YtclmgfcdnokaiaaFormatOnce7Pc
import Derived.Test.YtclmgfcdnokaiaaFormatOnce7Pa
import Derived.Test.YtclmgfcdnokaiaaRows
import Derived.ProofKit
import Derived.LaidMore
import Derived.OpenShut
import Derived.ShutString
import Derived.ChangeOld
import Derived.Stop.Joined
import Derived.Carry
import Derived.Lib.SmallJoins
import Derived.Deep.Matrix
import Derived.SizedLaws
/-
  Maps with few keys, of the call's own: made, filled, looked up; and calls of method values.
-/
namespace Go.Proofs.Ytclmgfcdnokaiaa
set_option linter.unusedVariables false
set_option linter.unusedSimpArgs false
set_option linter.unusedVariables false
open Go Go.RowKit
section
variable {P : Program} {ops : Array Oper} {Q : Exit → Act → World → Prop} {n : Sz} {w0 : World} {L L' : List (Nat × Value)} {H : List Ent}
variable {o : Oper} {rest : List Oper} {v u : Value} {x y z : Operand} {t e k : TypeId} {kq : IntKind}
theorem St.putObj {w : World} {b : Nat} {ob : Obj} (h : St w0 H w) (hb : w0.heap.size ≤ b) (hne : ∀ e ∈ H, e.g ≠ b) : St w0 H { w with heap := w.heap.setIfInBounds b ob } := by
  have hsame : ∀ c, c ≠ b → ({ w with heap := w.heap.setIfInBounds b ob } : World).heap[c]? = w.heap[c]? := by
    intro c hc
    simp only [Array.getElem?_setIfInBounds]
    rw [if_neg (fun h => hc h.symm)]
  refine ⟨h.os, h.tape, h.output, by simpa using h.size, fun d hd => (h.has d hd).of_block (hsame _ (hne d hd)), fun c hc hcn => ?_, h.apart⟩
  exact (hsame c (by omega)).trans (h.old c hc hcn)
theorem TL.makeMap (hg : Wants n ops L o) (hi : inside n o.dst = true) (ho : o.op = .makeMap t none)
    (hr : ∀ w1 b, w0.heap.size ≤ b → b < w1.heap.size → (∀ e ∈ H, e.g ≠ b) → St w0 H w1 → w1.heap[b]? = some (.map #[] 0) → TL P ops Q n w1 rest (put L o.dst (.map (some b))) H) : TL P ops Q n w0 (o :: rest) L H :=
  fun a w hf hs => wpL_wants hg.nd (hg a hf) fun K hK => by
    have hrun : (execOp a.eval o).run P w = .ok (.value (.map (some w.heap.size))) (w.alloc (.map #[] 0)) := by
      simp only [execOp, ho]
      refine run_value ?_
      simp [Instr.makeMap, newObj, Sem.run_bind, Sem.run]
    have hold : ∀ b, b < w.heap.size → (w.alloc (.map #[] 0)).heap[b]? = w.heap[b]? := fun b hb => Below.heap_alloc w _ b hb
    have hst : St w0 H (w.alloc (.map #[] 0)) := ⟨hs.os, hs.tape, hs.output, by simp; have := hs.size; omega, fun d hd => (hs.has d hd).of_block (hold _ (hs.has d hd).lt),
      fun b hb hne => (hold b (Nat.lt_of_lt_of_le hb hs.size)).trans (hs.old b hb hne), hs.apart⟩
    unfold Oper.wp; rw [hrun]
    exact hK _ _ (hr _ w.heap.size hs.size (by simp) (fun e he => by have := (hs.has e he).lt; omega) hst (heap_alloc_new w _) _ _ (hf.put o.dst _ hi) hst.self)
theorem TL.insertM {w1 : World} {H0 : List Ent} {b c : Nat} {es : Array MapEntry} {q : Int} (hw : St w0 H0 w1) (hgs : H.map Ent.g = H0.map Ent.g) (hb : w0.heap.size ≤ b) (hne : ∀ e ∈ H, e.g ≠ b) (hM : w1.heap[b]? = some (.map es c))
    (hg : Wants n ops L o) (hd : o.dst = none) (ho : o.op = .insert t x y z) (h1 : P.underlying t = some (.map k e)) (hk : P.underlying k = some (.int kq))
    (hx : ev L x = some (.map (some b))) (hy : ev L y = some (.int kq q)) (hz : ev L z = some v) (hfind : Instr.findNow (.int kq) (.int kq q) es.toList 0 = some none)
    (hr : ∀ w2, St w0 H w2 → b < w2.heap.size → w2.heap[b]? = some (.map (es.push ⟨.int kq q, v, c⟩) (c + 1)) → TL P ops Q n w2 rest L H) : TL P ops Q n w1 (o :: rest) L H :=
  fun a w hf hs => wpL_wants hg.nd (hg a hf) fun K hK => by
    have hb1 : b < w1.heap.size := (Array.getElem?_eq_some_iff.1 hM).1
    have hbm : w.heap[b]? = some (.map es c) := (hs.old b hb1 hne).trans hM
    have hrun : (execOp a.eval o).run P w = .ok .skip { w with heap := w.heap.setIfInBounds b (.map (es.push ⟨.int kq q, v, c⟩) (c + 1)) } := by
      simp only [execOp, ho, hf.eval hx, hf.eval hy, hf.eval hz]
      refine run_unit ?_
      simp [Instr.mapUpdate, Sem.run_bind, run_under h1, MapKept.run_getObj_map hbm, MapKept.run_checkKey hk (k := .int kq q) (by simp [MapKept.IsKey]), MapKept.run_findKey hk hfind, MapKept.run_setObj_map _ hbm]
    have h0 : St w0 H w := by
      have a1 : St w0 (H0 ++ []) w1 := by rw [List.append_nil]; exact hw
      have a2 : St w1 (H ++ []) w := by rw [List.append_nil]; exact hs
      have := St.turns a1 a2 hgs (by intro e he; cases he)
      simpa using this
    have hst := h0.putObj (ob := .map (es.push ⟨.int kq q, v, c⟩) (c + 1)) hb hne
    have hlt : b < w.heap.size := Nat.lt_of_lt_of_le hb1 hs.size
    unfold Oper.wp; rw [hrun]
    refine hK _ _ ?_
    rw [hd]
    exact hr _ hst (by simpa using hlt) (by simp [hlt]) _ _ hf hst.self
theorem run_lookupM {w : World} {b c : Nat} {es : Array MapEntry} {q : Int} {ck : Bool} {r : Option (Nat × Value)} {zv : Value} (hM : w.heap[b]? = some (.map es c)) (h1 : P.underlying t = some (.map k e)) (hk : P.underlying k = some (.int kq)) (hzv : (P.info? e).bind (·.zero) = some zv)
    (hfind : Instr.findNow (.int kq) (.int kq q) es.toList 0 = some r) : (Instr.lookup t (.map (some b)) (.int kq q) ck).run P w = .ok (let v := match r with | some (_, u) => u | none => zv; if ck then .tuple #[v, .bool r.isSome] else v) w := by
  cases r with
  | none => simp [Instr.lookup, Sem.run_bind, run_under h1, MapKept.run_getObj_map hM, MapKept.run_checkKey hk (k := .int kq q) (by simp [MapKept.IsKey]), MapKept.run_findKey hk hfind, run_zero hzv]
  | some p => obtain ⟨i, u⟩ := p; simp [Instr.lookup, Sem.run_bind, run_under h1, MapKept.run_getObj_map hM, MapKept.run_checkKey hk (k := .int kq q) (by simp [MapKept.IsKey]), MapKept.run_findKey hk hfind]
theorem Gets.lookYes {b c i : Nat} {es : Array MapEntry} {q : Int} {zv : Value} (hM : w0.heap[b]? = some (.map es c)) (hne : ∀ e ∈ H, e.g ≠ b) (ho : o.op = .lookup t x y true) (h1 : P.underlying t = some (.map k e)) (hk : P.underlying k = some (.int kq)) (hzv : (P.info? e).bind (·.zero) = some zv)
    (hx : ev L x = some (.map (some b))) (hy : ev L y = some (.int kq q)) (hfind : Instr.findNow (.int kq) (.int kq q) es.toList 0 = some (some (i, v))) : Gets P n w0 o L H (.tuple #[v, .bool true]) := fun a w hf hs => by
  have hbm : w.heap[b]? = some (.map es c) := (hs.old b (Array.getElem?_eq_some_iff.1 hM).1 hne).trans hM
  simp only [execOp, ho, hf.eval hx, hf.eval hy]
  refine run_value ?_
  rw [run_lookupM hbm h1 hk hzv hfind]; rfl
theorem Gets.lookNo {b c : Nat} {es : Array MapEntry} {q : Int} {zv : Value} (hM : w0.heap[b]? = some (.map es c)) (hne : ∀ e ∈ H, e.g ≠ b) (ho : o.op = .lookup t x y true) (h1 : P.underlying t = some (.map k e)) (hk : P.underlying k = some (.int kq)) (hzv : (P.info? e).bind (·.zero) = some zv)
    (hx : ev L x = some (.map (some b))) (hy : ev L y = some (.int kq q)) (hfind : Instr.findNow (.int kq) (.int kq q) es.toList 0 = some none) : Gets P n w0 o L H (.tuple #[zv, .bool false]) := fun a w hf hs => by
  have hbm : w.heap[b]? = some (.map es c) := (hs.old b (Array.getElem?_eq_some_iff.1 hM).1 hne).trans hM
  simp only [execOp, ho, hf.eval hx, hf.eval hy]
  refine run_value ?_
  rw [run_lookupM hbm h1 hk hzv hfind]; rfl
/-! ### Finding a key -/
theorem find_nil {q : Int} {j : Nat} : Instr.findNow (.int kq) (.int kq q) [] j = some none := rfl
theorem find_yes {q : Int} {j c : Nat} {u : Value} {es : List MapEntry} : Instr.findNow (.int kq) (.int kq q) (⟨.int kq q, u, c⟩ :: es) j = some (some (j, u)) := by
  simp [Instr.findNow, Instr.sameNow]
theorem find_no {q q' : Int} {j c : Nat} {u : Value} {es : List MapEntry} {r : Option (Nat × Value)} (h : q ≠ q') (hr : Instr.findNow (.int kq) (.int kq q) es (j + 1) = some r) : Instr.findNow (.int kq) (.int kq q) (⟨.int kq q', u, c⟩ :: es) j = some r := by
  have hq : (q == q') = false := by simpa using h
  simp [Instr.findNow, Instr.sameNow, hq, hr]
theorem find_is {q q' : Int} {j c : Nat} {u : Value} {es : List MapEntry} (h : q = q') : Instr.findNow (.int kq) (.int kq q) (⟨.int kq q', u, c⟩ :: es) j = some (some (j, u)) := by subst h; exact find_yes
/-! ### Calls of method values -/
theorem run_enterG {f : FuncId} {tt : Nat} {la lb : List Value} {xs : List Operand} {ts : Array TypeId} {vs : List Value} {a : Act} {w : World} (h : Enters P f) (ho : o.op = .call { callee := .value (.tmp tt), args := xs.toArray, argTypes := ts }) (hf : Fr n L a)
    (ht : look L tt = some (.func (.func f) la.toArray lb.toArray)) (hx : evs L xs = some vs) : (execOp a.eval o).run P w = .ok (.enter f (la ++ vs ++ lb).toArray) w := by
  have hm := hf.evals hx
  have hev : a.eval (.tmp tt) = .func (.func f) la.toArray lb.toArray := hf.eval (x := .tmp tt) ht
  simp only [execOp, ho, resolve, hev, Deferred.ofValue, Sem.run_bind, Sem.run_pure, Result.andThen_ok, List.map_toArray, hm, invoke]
  simp [run_call h]
theorem TL.callG {ι : Type} {f : FuncId} {tt : Nat} {la lb : List Value} {xs : List Operand} {ts : Array TypeId} {vs : List Value} {V : ι → Value} {R : ι → Prop} {H' : ι → List Ent} (hg : Wants n ops L o) (hi : inside n o.dst = true) (h : Enters P f)
    (ho : o.op = .call { callee := .value (.tmp tt), args := xs.toArray, argTypes := ts }) (ht : look L tt = some (.func (.func f) la.toArray lb.toArray)) (hx : evs L xs = some vs)
    (hc : ∀ w, St w0 H w → Calls P f (la ++ vs ++ lb).toArray w fun e w' => ∃ i, e = .returned (V i) ∧ R i ∧ St w0 (H' i) w')
    (hr : ∀ i, R i → TL P ops Q n w0 rest (put L o.dst (V i)) (H' i)) : TL P ops Q n w0 (o :: rest) L H :=
  fun a w hf hs => wpL_wants hg.nd (hg a hf) fun K hK => by
    unfold Oper.wp; rw [run_enterG h ho hf ht hx]
    refine (hc w hs).mono ?_
    rintro e w' ⟨i, rfl, hR, hs'⟩
    exact hK _ _ (hr i hR _ _ (hf.put o.dst _ hi) hs')
/-! ### Two structs of two numbers, unequal -/
theorem Gets.pairNe {kd : IntKind} {t' : TypeId} {f0 f1 : Field} {a b c d : Int} {k0 k1 : IntKind} (ho : o.op = .binOp .neq t x y t') (h1 : P.underlying t = some (.struct #[f0, f1])) (hn0 : f0.name ≠ "_") (hn1 : f1.name ≠ "_") (ho0 : f0.offset = 0) (ho1 : f1.offset = 1)
    (ht0 : P.underlying f0.type = some (.int k0)) (ht1 : P.underlying f1.type = some (.int k1)) (hsi : P.stoodInHeld t = false) (hgt : P.eqGuardType P.depth t = false)
    (hx : ev L x = some (.agg [Value.int kd a, Value.int kd b].toArray)) (hy : ev L y = some (.agg [Value.int kd c, Value.int kd d].toArray)) : Gets P n w0 o L H (.bool (decide (¬ (a = c ∧ b = d)))) := fun ac w hf hs => by
  simp only [execOp, ho, hf.eval hx, hf.eval hy]
  refine run_value ?_
  have hg := run_eqGuard_agg (P := P) w .neq t x y [Value.int kd a, Value.int kd b].toArray [Value.int kd c, Value.int kd d].toArray hgt
  have hp := fun (ty : TypeId) (kk : IntKind) (l : List Value) (i : Nat) (v : Value) (ht : P.underlying ty = some (.int kk)) (hv : l[i]? = some v) (w : World) => run_part1 (P := P) (cs := l.toArray) (isAgg_no ht rfl) (by simpa using hv) w
  simp only [Sem.run_bind, hg, Result.andThen_ok]
  rw [run_neq_struct, run_equalIn_struct w 9999 t _ _ (by rw [fieldsOf_is h1]; exact h1) hsi, fieldsOf_is h1]
  simp only [Op.eqFields, Sem.run_bind, ne_eq, hn0, hn1, not_false_eq_true, if_true, ho0, ho1,
    hp f0.type k0 [Value.int kd a, Value.int kd b] 0 _ ht0 rfl, hp f0.type k0 [Value.int kd c, Value.int kd d] 0 _ ht0 rfl, hp f1.type k1 [Value.int kd a, Value.int kd b] 1 _ ht1 rfl, hp f1.type k1 [Value.int kd c, Value.int kd d] 1 _ ht1 rfl, Result.andThen_ok]
  have e0 := run_equalIn_int (P := P) w 9998 f0.type kd k0 a c ht0
  have e1 := run_equalIn_int (P := P) w 9998 f1.type kd k1 b d ht1
  rw [show (9998 + 1) = 9999 from rfl] at e0 e1
  have q1 := hp f1.type k1 [Value.int kd a, Value.int kd b] 1 _ ht1 rfl
  have q2 := hp f1.type k1 [Value.int kd c, Value.int kd d] 1 _ ht1 rfl
  rw [e0]
  by_cases hac : a = c
  · subst hac
    simp only [beq_self_eq_true, Result.andThen_ok, Bool.not_true, Bool.false_eq_true, if_false, Sem.run_bind, q1, q2]
    rw [e1]
    by_cases hbd : b = d
    · subst hbd
      simp only [beq_self_eq_true, Result.andThen_ok, Bool.not_true, Bool.false_eq_true, if_false, Sem.run_pure]
      simp
    · have : (b == d) = false := by simpa using hbd
      simp [this, hbd]
  · have : (a == c) = false := by simpa using hac
    simp [this, hac]
end
end Go.Proofs.Ytclmgfcdnokaiaa
/-
  Insertion: where a command is put into a sorted list of commands.
-/
namespace Go.Proofs.Ytclmgfcdnokaiaa
set_option linter.unusedVariables false
set_option linter.unusedSimpArgs false
set_option linter.unusedVariables false
open Go Go.RowKit
structure WS where
  i : Nat
  v : Value
  Es : List CV
  He : List Ent
theorem ValidC.perm {o n : Int} {Cs Es : List CV} (h : ValidC o n Cs) (hp : Es.Perm Cs) : tidyT 0 n (Es.map tg) ∧ coverT 0 n (Es.map tg) ∧ sumT (Es.map tg) = n := ⟨h.tidy.perm (hp.symm.map tg), h.cover.perm (hp.symm.map tg), by rw [sumT_perm (hp.map tg)]; exact h.sum⟩
end Go.Proofs.Ytclmgfcdnokaiaa
/-
  Commands that a callee has made; what the check of a delta depends on; a delta without a command, and with one twice; the chapter's example.
-/
namespace Go.Proofs.Ytclmgfcdnokaiaa
set_option linter.unusedVariables false
set_option linter.unusedSimpArgs false
set_option linter.unusedVariables false
open Go Go.RowKit
/-- Commands in memory of the callee's own. -/
def OwnD (N : Nat) (A : Option Addr) (m : Nat) (Es : List CV) (He : List Ent) : Prop := (∀ e ∈ He, N ≤ e.g) ∧ NumsC Es ∧ (m = 0 ∨ ∃ b off, A = some ⟨b, off, none⟩) ∧ ∀ w : World, (∀ e ∈ He, e.lies w) → SrcC w A m Es ∧ DatC w Es
theorem OwnD.mono {N N' m : Nat} {A : Option Addr} {Es : List CV} {He : List Ent} (h : OwnD N' A m Es He) (hN : N ≤ N') : OwnD N A m Es He := ⟨fun e he => Nat.le_trans hN (h.1 e he), h.2⟩
theorem OwnD.num {N m : Nat} {A : Option Addr} {Es : List CV} {He : List Ent} (h : OwnD N A m Es He) : NumsC Es := h.2.1
theorem OwnD.src {N m : Nat} {A : Option Addr} {Es : List CV} {He : List Ent} (h : OwnD N A m Es He) {w : World} (hs : ∀ e ∈ He, e.lies w) : SrcC w A m Es := (h.2.2.2 w hs).1
theorem OwnD.dat {N m : Nat} {A : Option Addr} {Es : List CV} {He : List Ent} (h : OwnD N A m Es He) {w : World} (hs : ∀ e ∈ He, e.lies w) : DatC w Es := (h.2.2.2 w hs).2
/-- The same commands, wherever their data lie. -/
def keyE (x : CV) : (Int × Int × Int × Int × List Int) × Nat := (valC x, x.m)
def sameE (Fs Gs : List CV) : Prop := Fs.map keyE = Gs.map keyE
theorem sameE.c {Fs Gs : List CV} (h : sameE Fs Gs) : sameC Fs Gs := by
  have := congrArg (List.map Prod.fst) h
  rw [List.map_map, List.map_map] at this; exact this
theorem sameE.len {Fs Gs : List CV} (h : sameE Fs Gs) : Fs.length = Gs.length := sameC_len h.c
/-- Few commands with few bytes, one more than the laws ask for. -/
def fewQ (Cs : List CV) : Prop := (∀ (i : Nat) (x : CV), Cs[i]? = some x → x.m ≤ 300) ∧ Cs.length ≤ 50
theorem fewP.q {Cs : List CV} (h : fewP Cs) : fewQ Cs := ⟨h.1, by have := h.2; omega⟩
theorem fewQ.sub {Cs Es : List CV} (h : fewP Cs) (hs : ∀ x ∈ Es, x ∈ Cs) (hl : Es.length ≤ 50) : fewQ Es := ⟨fun i x hx => by
  obtain ⟨j, hj⟩ := List.mem_iff_getElem?.1 (hs x (List.mem_of_getElem? hx))
  exact h.1 j x hj, hl⟩
theorem NumsC.sub {Cs Es : List CV} (h : NumsC Cs) (hs : ∀ x ∈ Es, x ∈ Cs) : NumsC Es := fun i x hx => by
  obtain ⟨j, hj⟩ := List.mem_iff_getElem?.1 (hs x (List.mem_of_getElem? hx))
  exact h j x hj
theorem DatC.sub {w : World} {Cs Es : List CV} (h : DatC w Cs) (hs : ∀ x ∈ Es, x ∈ Cs) : DatC w Es := fun i x hx => by
  obtain ⟨j, hj⟩ := List.mem_iff_getElem?.1 (hs x (List.mem_of_getElem? hx))
  exact h j x hj
theorem sameE.m {Fs Gs : List CV} (h : sameE Fs Gs) {i : Nat} {x y : CV} (hx : Fs[i]? = some x) (hy : Gs[i]? = some y) : x.m = y.m := by
  have h1 := congrArg (·[i]?) h
  simp only [List.getElem?_map, hx, hy, Option.map_some, Option.some.injEq] at h1
  exact congrArg Prod.snd h1
theorem fewQ.same {Cs Es : List CV} (h : fewQ Cs) (hs : sameE Es Cs) : fewQ Es := by
  have hl := hs.len
  refine ⟨fun i x hx => ?_, by rw [hl]; exact h.2⟩
  have hi := (List.getElem?_eq_some_iff.1 hx).1
  have hy : Cs[i]? = some Cs[i] := List.getElem?_eq_getElem (by omega)
  have h5 := h.1 i _ hy
  have := hs.m hx hy
  omega
/-! ### What the check depends on -/
def normC (x : CV) : CV := { x with A := none, c := 0, B := [] }
theorem sameE.n {Cs Es : List CV} (h : sameE Es Cs) : Es.map normC = Cs.map normC := by
  have := congrArg (List.map fun (q : (Int × Int × Int × Int × List Int) × Nat) => (⟨q.1.1, q.1.2.1, q.1.2.2.1, q.1.2.2.2.1, none, q.2, 0, []⟩ : CV)) h
  rw [List.map_map, List.map_map] at this; exact this
theorem sameE.tg {Cs Es : List CV} (h : sameE Es Cs) : Es.map tg = Cs.map tg := by
  have := congrArg (List.map Proofs.Ytclmgfcdnokaiaa.tg) h.n
  rw [List.map_map, List.map_map] at this; exact this
/-! ### A delta without one command, and with one twice -/
/-! ### The sorted delta -/
/-! ### The chapter's example -/
end Go.Proofs.Ytclmgfcdnokaiaa
/-
  What the code of the format's reader needs besides: a copy in a region that draws its order; results in two blocks; back to an earlier world.
-/
namespace Go.Proofs.Ytclmgfcdnokaiaa
set_option linter.unusedVariables false
set_option linter.unusedSimpArgs false
set_option linter.unusedVariables false
open Go Go.RowKit
section
variable {P : Program} {ops : Array Oper} {Q : Exit → Act → World → Prop} {n : Sz} {w0 : World} {L L' : List (Nat × Value)} {HB H : List Ent}
variable {o : Oper} {rest : List Oper} {v u : Value} {x y z : Operand} {k m j : Nat} {t t' e : TypeId} {ks : List Nat} {kd : IntKind}
theorem TP.copy {i g off dl dc sl sc : Nat} {ent : Ent} {A : Option Addr} {B : List Int} (hg : Wants n ops L o) (hi' : inside n o.dst = true) (ho : o.op = .call { callee := .builtin .copy, args := #[x, y], argTypes := #[t, t'] })
    (h1 : P.underlying t = some (.slice e)) (hsz : (P.info? e).map (·.size) = some 1)
    (hx : ev L x = some (.slice (some ⟨g, off, none⟩) dl dc)) (hy : ev L y = some (.slice A sl sc)) (hi : (HB ++ H)[i]? = some ent) (he : ent.g = g) (hoff : off + dl ≤ ent.cs.length)
    (hsrc : ∀ w, St w0 (HB ++ H) w → Src w A sl kd B) {c : Nat} (hc : min sl dl = c)
    {cs' : List Value} (hcs : ent.cs.take off ++ (B.take c).map (Value.int kd) ++ ent.cs.drop (off + c) = cs') {H' : List Ent} (hH : (HB ++ H).set i ⟨ent.g, ent.t, cs', ent.tot⟩ = HB ++ H')
    (hr : TP P ops Q n w0 HB ks rest (put L o.dst (.int .i64 c)) H') : TP P ops Q n w0 HB (3 :: ks) (o :: rest) L H := by
  refine TP.value (ι := Unit) (V := fun _ => .int .i64 c) (R := fun _ => True) (H' := fun _ => H') hg hi' (fun a w hf hs => ?_) fun _ _ => hr
  subst hc; subst hcs
  have hB := hsrc w hs
  have hlen : ((B.take (min sl dl)).map (Value.int kd)).length = min sl dl := by simp; have := hB.1; omega
  obtain ⟨w', hrun, hs'⟩ := run_storeCells (P := P) (i := i) (g := g) (ent := ent) (off := off) ((B.take (min sl dl)).map (Value.int kd)) 0 (HB ++ H) ent w he hs hi ints_one (by rw [hlen]; omega)
  have hrun' : (execOp a.eval o).run P w = .ok (.value (.int .i64 (min sl dl : Nat))) w' := by
    simp only [execOp, ho, resolve, invoke, builtin, Sem.run_bind, Sem.run_pure, Result.andThen_ok, List.map_toArray, List.map_cons, List.map_nil, hf.eval hx, hf.eval hy]
    have h5 : (Builtin.copy_ #[t, t'] o.type #[.slice (some ⟨g, off, none⟩) dl dc, .slice A sl sc]).run P w = .ok (.int .i64 (min sl dl : Nat)) w' := by
      unfold Builtin.copy_
      simp only [List.getElem?_toArray, List.getElem?_cons_zero, List.getElem?_cons_succ, Sem.run_bind, run_under h1, Result.andThen_ok, Builtin.lenOf, Sem.run_pure, run_size hsz]
      have h6 := run_cells (P := P) (c := sc) hB (i := Nat.min sl dl) (Nat.min_le_left _ _)
      rw [h6]
      simp only [Result.andThen_ok]
      have h7 : (storeCells ⟨g, off, none⟩ ((B.take (Nat.min sl dl)).map (Value.int kd)) 0).run P w = .ok () w' := hrun
      rw [h7]
      rfl
    rw [h5]; rfl
  rw [hlen] at hs'
  refine ⟨(), w', hrun', trivial, ?_⟩
  rw [← hH]; simpa using hs'
/-- Back to the world from before. -/
theorem TE.rebase {w1 : World} {ex : Exit} {H0 H1 E : List Ent} (hw : St w0 H0 w1) (hg : H1.map Ent.g = H0.map Ent.g) (hE : Fresh w1 E) (h : TE Q ex n w0 L (H1 ++ E)) : TE Q ex n w1 L (H1 ++ E) := fun a w' hf hs => h a w' hf (by
  have h1 : St w0 (H0 ++ []) w1 := by rw [List.append_nil]; exact hw
  have := St.turns h1 hs hg hE
  rwa [List.append_nil] at this)
theorem TE.ret2CC {fn : Func} {R : Ending → World → Prop} {i j g off s g2 off2 s2 : Nat} {vs us : List Value} (hres : fn.results = #[.cell i t, .cell j t']) (hag : (isAgg t).run P = fun w => .ok true w) (hsz : (P.info? t).map (·.size) = some s)
    (hag2 : (isAgg t').run P = fun w => .ok true w) (hsz2 : (P.info? t').map (·.size) = some s2)
    (hx : look L i = some (.pointer (some ⟨g, off, none⟩))) (hl : vs.length = s) (hc : Row w0 H g off vs) (hy : look L j = some (.pointer (some ⟨g2, off2, none⟩))) (hl2 : us.length = s2) (hc2 : Row w0 H g2 off2 us)
    (h : ∀ w, St w0 H w → R (.returned (.tuple #[.agg vs.toArray, .agg us.toArray])) w) (hds : n.ds = [] := by rfl) : TE (bodyPost P fn R) .ret n w0 L H := fun a w hf hs => by
  refine ⟨hf.1.trans hds, .tuple #[.agg vs.toArray, .agg us.toArray], ?_, h w hs⟩
  have h1 : (a.tmps.getD i undef) = .pointer (some ⟨g, off, none⟩) := by simp [Array.getD_eq_getD_getElem?, hf.2.2 i _ hx]
  have h3 : (a.tmps.getD j undef) = .pointer (some ⟨g2, off2, none⟩) := by simp [Array.getD_eq_getD_getElem?, hf.2.2 j _ hy]
  have h2 := run_loadCells (P := P) (w := w) (b := g) (off := off) s 0 #[] vs hl (fun j u hu => by rw [Nat.zero_add]; exact hc w hs j u hu)
  have h4 := run_loadCells (P := P) (w := w) (b := g2) (off := off2) s2 0 #[] us hl2 (fun j u hu => by rw [Nat.zero_add]; exact hc2 w hs j u hu)
  simp only [results, hres]
  simp [Sem.run_bind, loadVar, hag, hag2, run_size hsz, run_size hsz2, loadCells]
  simp only [Array.getD_eq_getD_getElem?] at h1 h3
  simp [h1, h3, asAddr, h2, h4]
end
/-! ### Commands whose bytes lie in blocks of the call's own -/
def OwnL (N : Nat) (Es : List CV) (HD : List Ent) : Prop := (∀ e ∈ HD, N ≤ e.g) ∧ NumsC Es ∧ ∀ w : World, (∀ e ∈ HD, e.lies w) → DatC w Es
theorem OwnL.nil (N : Nat) : OwnL N [] [] := ⟨(fun e he => by cases he), (fun i x hx => by simp at hx), (fun w _ i x hx => by simp at hx)⟩
theorem OwnL.snoc {N t : Nat} {Es : List CV} {HD He : List Ent} {y : CV} (h : OwnL N Es HD) (hy : Own N t .u8 (.slice y.A y.m y.c) y.B He) (hn : NumC y) (hb : Bytes y.B) : OwnL N (Es ++ [y]) (HD ++ He) := by
  refine ⟨fun e he => (List.mem_append.1 he).elim (h.1 e) (hy.new e), fun i x hx => ?_, fun w hw i x hx => ?_⟩
  · rcases List.mem_append.1 (List.mem_of_getElem? hx) with hm | hm
    · obtain ⟨q, hq⟩ := List.mem_iff_getElem?.1 hm
      exact h.2.1 q x hq
    · rw [List.mem_singleton.1 hm]; exact hn
  · rcases List.mem_append.1 (List.mem_of_getElem? hx) with hm | hm
    · obtain ⟨q, hq⟩ := List.mem_iff_getElem?.1 hm
      exact h.2.2 w (fun e he => hw e (List.mem_append.2 (.inl he))) q x hq
    · rw [List.mem_singleton.1 hm]
      exact ⟨hy.srcOf fun e he => hw e (List.mem_append.2 (.inr he)), hb⟩
theorem ownD_of {N t m c : Nat} {A : Option Addr} {Es : List CV} {HD HS : List Ent} (h1 : OwnS N t 5 (.slice A m c) m (flatC Es) HS) (h2 : OwnL N Es HD) : OwnD N A m Es (HD ++ HS) := by
  refine ⟨fun e he => (List.mem_append.1 he).elim (h2.1 e) (h1.new e), h2.2.1, ?_, fun w hw => ⟨h1.srcC fun e he => hw e (List.mem_append.2 (.inr he)), h2.2.2 w fun e he => hw e (List.mem_append.2 (.inl he))⟩⟩
  rcases h1.2 with ⟨_, h3, _⟩ | ⟨g, cap, h3, _⟩
  · exact .inl h3
  · cases h3; exact .inr ⟨g, 0, rfl⟩
theorem OwnL.mono {N N' : Nat} {Es : List CV} {HD : List Ent} (h : OwnL N' Es HD) (hN : N ≤ N') : OwnL N Es HD := ⟨fun e he => Nat.le_trans hN (h.1 e he), h.2⟩
/-! ### A command of an unknown kind -/
theorem rCmd_bad {B : List Int} {s : RS} {x : Int × RS} (hx : rUint B s 1 = x) (h1 : ¬ x.1 = 1) (h2 : ¬ x.1 = 2) : (rCmd B s).2 = rFail x.2 11 (s.k : Int) ∧ (rFail x.2 11 (s.k : Int)).co ≠ 0 := by
  have hz : kindF x.2 x.1 s.k = rFail x.2 11 (s.k : Int) ∧ (rFail x.2 11 (s.k : Int)).co ≠ 0 := by
    by_cases h : x.2.co = 0
    · refine ⟨by unfold kindF; rw [if_pos ⟨h, h1, h2⟩], ?_⟩
      unfold rFail; rw [if_pos ⟨h, by decide⟩]; show (11 : Int) ≠ 0; decide
    · rw [kindF_dead h, rFail_dead h]; exact ⟨rfl, h⟩
  refine ⟨?_, hz.2⟩
  unfold rCmd
  dsimp only
  rw [hx, hz.1, if_neg h1]
  simp only [rLen_dead hz.2, rBytes_dead hz.2]
theorem RI.po0 {B : List Int} {s : RS} (h : RI B s) : (s.co = 0 ∧ s.po = 0) ↔ s.co = 0 := ⟨fun h => h.1, fun h0 => ⟨h0, (h.2.resolve_right fun h2 => h2.1 h0).2⟩⟩
theorem rBytes_bytes {B : List Int} (hB : Bytes B) (s : RS) (n : Nat) : Bytes (rBytes B s n).1 := by
  unfold rBytes
  split
  · split
    · intro x hx; cases hx
    · exact (hB.drop _).take _
  · intro x hx; cases hx
theorem rBytes_len {B : List Int} (s : RS) (n : Nat) : (rBytes B s n).1.length ≤ B.length := by
  unfold rBytes
  split
  · split
    · exact Nat.zero_le _
    · show ((B.drop s.k).take n).length ≤ _; rw [List.length_take, List.length_drop]; omega
  · exact Nat.zero_le _
theorem St.trans7 {w0 w1 w : World} {H0 H1 : List Ent} (h1 : St w0 H0 w1) (h2 : St w1 H1 w) (hg : H1.map Ent.g = H0.map Ent.g) : St w0 H1 w := by
  have a1 : St w0 (H0 ++ []) w1 := by rw [List.append_nil]; exact h1
  have a2 : St w1 (H1 ++ []) w := by rw [List.append_nil]; exact h2
  have := St.turns a1 a2 hg (by intro e he; cases he)
  simpa using this
theorem Src.frz {w0 w1 w : World} {H0 H1 : List Ent} {b m : Nat} {kd : IntKind} {B : List Int} (h : Src w1 (some ⟨b, 0, none⟩) m kd B) (h1 : St w0 H0 w1) (h2 : St w1 H1 w) (hg : H1.map Ent.g = H0.map Ent.g) (hb : b < w1.heap.size) (hne : ∀ e ∈ H1, e.g ≠ b) : Src w (some ⟨b, 0, none⟩) m kd B := by
  refine ⟨h.1, h.2.imp id ?_⟩
  rintro ⟨b', off, h3, h4, h5⟩
  cases h3
  refine ⟨b, 0, rfl, Nat.lt_of_lt_of_le hb h2.size, fun j hj => ?_⟩
  rw [h2.old_cell (ad := ⟨b, _, none⟩) hb hne]
  exact h5 j hj
end Go.Proofs.Ytclmgfcdnokaiaa
/-
  The code of layer 7: the bodies of commands.
-/
namespace Go.Proofs.Ytclmgfcdnokaiaa
set_option linter.unusedVariables false
set_option linter.unusedSimpArgs false
open Go Go.RowKit
theorem agg59 : (isAgg 59).run Try.prog = fun w => .ok false w := isAgg_no Try.underlying59 rfl
theorem enters44 : Enters Try.prog 44 := ⟨_, Try.func44, by kernel_rfl, by kernel_rfl⟩
theorem enters62 : Enters Try.prog 62 := ⟨_, Try.func62, by kernel_rfl, by kernel_rfl⟩
theorem size59 : (Try.prog.info? 59).map (·.size) = some 1 := by kernel_rfl
set_option maxRecDepth 100000 in
set_option maxHeartbeats 2000000 in
theorem copying_s (g : Nat) (A : Option Addr) (m c : Nat) (s : RS) (to : Int) (w : World) (hl : Ent.lies ⟨g, 87, rdC A m c s.k s.co s.po, rdN⟩ w) (hk : s.k ≤ m) (hmc : m ≤ c) (hcm : c ≤ 9223372036854775807) (B : List Int) (hX : SrcX w [g] A m .u8 B) (hBB : Bytes B) (hri : RI B s) (hm : m ≤ 1000000)  : Calls Try.prog 63 #[.agg ([Value.pointer (some ⟨g, 0, none⟩)]).toArray, .int .i64 to] w fun e w' => e = .returned (.agg ([Value.int .i64 1, Value.int .i64 to, Value.int .i64 ((rLen B s).1), Value.int .i64 ((rLen B (rLen B s).2).1), Value.slice none 0 0]).toArray) ∧ St w [⟨g, 87, rdC A m c (rLen B (rLen B s).2).2.k (rLen B (rLen B s).2).2.co (rLen B (rLen B s).2).2.po, rdN⟩] w' := by
  have hBm := hX.1
  have hg : g < w.heap.size := hl.lt
  refine calls_from (args := [.agg ([Value.pointer (some ⟨g, 0, none⟩)]).toArray, .int .i64 to]) Try.func63 rfl Try.ntmps63 (by simp) ?_
  refine TC.pr [0, 1] ?_
  refine TC.heap (H' := [⟨g, 87, [Value.slice A m c, Value.int .i64 (s.k : Int), Value.int .i64 s.co, Value.int .i64 s.po], 4⟩]) (fun w hs => hs.take hl ne_nil) ?_
  iterate 2 refine gx ?_
  refine TL.bxA (fun g1 hg1 => ?_)
  refine TL.al (fun g2 hg2 => ?_)
  iterate 3 refine gx ?_
  refine TC.heap (H' := [⟨g2, 47, [Value.int .i64 0, Value.int .i64 0, Value.int .i64 0, Value.int .i64 0, Value.slice none 0 0], 5⟩, ⟨g1, 62, [Value.pointer (some ⟨g, 0, none⟩)], 1⟩] ++ ([⟨g, 87, [Value.slice A m c, Value.int .i64 (s.k : Int), Value.int .i64 s.co, Value.int .i64 s.po], 4⟩])) (fun w h => h) ?_
  refine TC.mixB (HB := [Ent.mk g2 47 ([Value.int .i64 0, Value.int .i64 0, Value.int .i64 0, Value.int .i64 0, Value.slice none 0 0]) 5, Ent.mk g1 62 ([Value.pointer (some ⟨g, 0, none⟩)]) 1]) (H := [Ent.mk g 87 ([Value.slice A m c, Value.int .i64 (s.k : Int), Value.int .i64 s.co, Value.int .i64 s.po]) 4]) (by kernel_rfl) [0, 0, 3, 0, 0, 3, 0, 0] [0, 1, 3, 4, 2, 5, 6, 7] (by kernel_rfl) ?_
  refine TP.free (Wants.none rfl) rfl (fun _ => Gets.fieldAddr rfl Try.underlying62 rfl size59 rfl (off' := 0) (by first | rfl | omega)) ?_
  refine TP.stay (Wants.none rfl) rfl (fun H' => Gets.load1 rfl agg59 rfl (At.ent (i := 1) (ent := ⟨g1, 62, [Value.pointer (some ⟨g, 0, none⟩)], 1⟩) (off := 0) rfl rfl (by exact rfl))) ?_
  refine TP.free (Wants.none rfl) rfl (fun _ => Gets.fieldAddr rfl Try.underlying62 rfl size59 rfl (off' := 0) (by first | rfl | omega)) ?_
  refine TP.stay (Wants.none rfl) rfl (fun H' => Gets.load1 rfl agg59 rfl (At.ent (i := 1) (ent := ⟨g1, 62, [Value.pointer (some ⟨g, 0, none⟩)], 1⟩) (off := 0) rfl rfl (by exact rfl))) ?_
  refine TP.call (ι := Unit) (V := fun _ => .int .i64 ((rLen B s).1)) (R := fun _ => True) (H' := fun _ => [⟨g, 87, [Value.slice A m c, Value.int .i64 ((rLen B s).2.k : Int), Value.int .i64 ((rLen B s).2.co), Value.int .i64 ((rLen B s).2.po)], 4⟩]) (Wants.none rfl) rfl enters44 rfl rfl (fun w hs => (wlen_s g A m c s w (hs.has (⟨g, 87, [Value.slice A m c, Value.int .i64 (s.k : Int), Value.int .i64 s.co, Value.int .i64 s.po], 4⟩) (by simp)) (by omega) (by omega) (by omega) B (hX.at_ hs (fun b hb hbX => (ne_app (ne_cons (by show g2 ≠ b; omega) (ne_cons (by show g1 ≠ b; omega) ne_nil)) (ne_cons (fun h => hbX g (by simp) h.symm) ne_nil)))) hBB).mono fun e w' ⟨he, hw⟩ => ⟨(), he, trivial, St.turn (i := 2) (e := ⟨g, 87, [Value.slice A m c, Value.int .i64 ((rLen B s).2.k : Int), Value.int .i64 ((rLen B s).2.co), Value.int .i64 ((rLen B s).2.po)], 4⟩) hs rfl rfl hw⟩) (fun _ _ => ?_)
  have hvf_ := rLen_val hBB s
  have hrif_ := rLen_ri hri
  generalize hf_ : rLen B s = f_ at hvf_ hrif_ ⊢
  have hkf_ : f_.2.k ≤ m := by have := hrif_.1; omega
  refine TP.call (ι := Unit) (V := fun _ => .int .i64 ((rLen B f_.2).1)) (R := fun _ => True) (H' := fun _ => [⟨g, 87, [Value.slice A m c, Value.int .i64 ((rLen B f_.2).2.k : Int), Value.int .i64 ((rLen B f_.2).2.co), Value.int .i64 ((rLen B f_.2).2.po)], 4⟩]) (Wants.none rfl) rfl enters44 rfl rfl (fun w hs => (wlen_s g A m c f_.2 w (hs.has (⟨g, 87, [Value.slice A m c, Value.int .i64 (f_.2.k : Int), Value.int .i64 f_.2.co, Value.int .i64 f_.2.po], 4⟩) (by simp)) (by omega) (by omega) (by omega) B (hX.at_ hs (fun b hb hbX => (ne_app (ne_cons (by show g2 ≠ b; omega) (ne_cons (by show g1 ≠ b; omega) ne_nil)) (ne_cons (fun h => hbX g (by simp) h.symm) ne_nil)))) hBB).mono fun e w' ⟨he, hw⟩ => ⟨(), he, trivial, St.turn (i := 2) (e := ⟨g, 87, [Value.slice A m c, Value.int .i64 ((rLen B f_.2).2.k : Int), Value.int .i64 ((rLen B f_.2).2.co), Value.int .i64 ((rLen B f_.2).2.po)], 4⟩) hs rfl rfl hw⟩) (fun _ _ => ?_)
  have hvl_ := rLen_val hBB f_.2
  have hril_ := rLen_ri hrif_
  generalize hl_ : rLen B f_.2 = l_ at hvl_ hril_ ⊢
  have hkl_ : l_.2.k ≤ m := by have := hril_.1; omega
  refine TP.free (Wants.none rfl) rfl (fun _ => Gets.assign rfl rfl) ?_
  refine TP.free (Wants.none rfl) rfl (fun _ => Gets.assign rfl rfl) ?_
  refine TP.nil ?_
  refine TE.heap (H' := [⟨g2, 47, [Value.int .i64 0, Value.int .i64 0, Value.int .i64 0, Value.int .i64 0, Value.slice none 0 0], 5⟩, ⟨g1, 62, [Value.pointer (some ⟨g, 0, none⟩)], 1⟩, ⟨g, 87, [Value.slice A m c, Value.int .i64 (l_.2.k : Int), Value.int .i64 l_.2.co, Value.int .i64 l_.2.po], 4⟩]) (fun w h => h) ?_
  refine gx ?_
  refine TC.pr [1, 4, 5, 6] ?_
  iterate 5 refine gx ?_
  refine TL.gets (Wants.none rfl) rfl (Gets.build rfl (vs := [(0, Value.int .i64 1), (1, Value.int .i64 to), (2, Value.int .i64 f_.1), (3, Value.int .i64 l_.1)]) rfl (fun w => by first | rfl | kernel_rfl) (v := .agg ([Value.int .i64 1, Value.int .i64 to, Value.int .i64 f_.1, Value.int .i64 l_.1, Value.slice none 0 0]).toArray)) ?_
  iterate 4 refine gx ?_
  exact TE.retC rfl agg47 size47 rfl (vs := [Value.int .i64 1, Value.int .i64 to, Value.int .i64 f_.1, Value.int .i64 l_.1, Value.slice none 0 0]) rfl (Row.all (i := 0) (ent := ⟨g2, 47, [Value.int .i64 1, Value.int .i64 to, Value.int .i64 f_.1, Value.int .i64 l_.1, Value.slice none 0 0], 5⟩) rfl rfl rfl) (fun w hs => ⟨rfl, ((hs.erase (i := 1) rfl (by assumption)).erase (i := 0) rfl (by assumption))⟩)

set_option maxRecDepth 100000 in
set_option maxHeartbeats 2000000 in
theorem literal_s (g : Nat) (A : Option Addr) (m c : Nat) (s : RS) (to : Int) (w : World) (hl : Ent.lies ⟨g, 87, rdC A m c s.k s.co s.po, rdN⟩ w) (hk : s.k ≤ m) (hmc : m ≤ c) (hcm : c ≤ 9223372036854775807) (B : List Int) (hX : SrcX w [g] A m .u8 B) (hBB : Bytes B) (hri : RI B s) (hm : m ≤ 1000000)  : Calls Try.prog 64 #[.agg ([Value.pointer (some ⟨g, 0, none⟩)]).toArray, .int .i64 to] w fun e w' => ∃ A1 c1 He, e = .returned (.agg ([Value.int .i64 2, Value.int .i64 to, Value.int .i64 0, Value.int .i64 0, Value.slice A1 (((rBytes B (rLen B s).2 (rLen B s).1.toNat).1.length)) c1]).toArray) ∧ Own w.heap.size 5 .u8 (.slice A1 (rBytes B (rLen B s).2 (rLen B s).1.toNat).1.length c1) (rBytes B (rLen B s).2 (rLen B s).1.toNat).1 He ∧ St w ((⟨g, 87, rdC A m c (rBytes B (rLen B s).2 (rLen B s).1.toNat).2.k (rBytes B (rLen B s).2 (rLen B s).1.toNat).2.co (rBytes B (rLen B s).2 (rLen B s).1.toNat).2.po, rdN⟩ : Ent) :: He) w' := by
  have hBm := hX.1
  have hg : g < w.heap.size := hl.lt
  refine calls_from (args := [.agg ([Value.pointer (some ⟨g, 0, none⟩)]).toArray, .int .i64 to]) Try.func64 rfl Try.ntmps64 (by simp) ?_
  refine TC.pr [0, 1] ?_
  refine TC.heap (H' := [⟨g, 87, [Value.slice A m c, Value.int .i64 (s.k : Int), Value.int .i64 s.co, Value.int .i64 s.po], 4⟩]) (fun w hs => hs.take hl ne_nil) ?_
  iterate 2 refine gx ?_
  refine TL.bxA (fun g1 hg1 => ?_)
  refine TL.al (fun g2 hg2 => ?_)
  iterate 3 refine gx ?_
  refine TC.heap (H' := [⟨g1, 62, [Value.pointer (some ⟨g, 0, none⟩)], 1⟩, ⟨g2, 47, [Value.int .i64 0, Value.int .i64 0, Value.int .i64 0, Value.int .i64 0, Value.slice none 0 0], 5⟩, ⟨g, 87, [Value.slice A m c, Value.int .i64 (s.k : Int), Value.int .i64 s.co, Value.int .i64 s.po], 4⟩]) (fun w h => h.perm (perm_pick (p := [1, 0, 2]) (by kernel_rfl) rfl)) ?_
  refine TC.heap (H' := [⟨g1, 62, [Value.pointer (some ⟨g, 0, none⟩)], 1⟩] ++ ([⟨g2, 47, [Value.int .i64 0, Value.int .i64 0, Value.int .i64 0, Value.int .i64 0, Value.slice none 0 0], 5⟩, ⟨g, 87, [Value.slice A m c, Value.int .i64 (s.k : Int), Value.int .i64 s.co, Value.int .i64 s.po], 4⟩])) (fun w h => h) ?_
  refine TC.mixB (HB := [Ent.mk g1 62 ([Value.pointer (some ⟨g, 0, none⟩)]) 1]) (H := [Ent.mk g2 47 ([Value.int .i64 0, Value.int .i64 0, Value.int .i64 0, Value.int .i64 0, Value.slice none 0 0]) 5, Ent.mk g 87 ([Value.slice A m c, Value.int .i64 (s.k : Int), Value.int .i64 s.co, Value.int .i64 s.po]) 4]) (by kernel_rfl) [0, 0, 0, 0, 0, 3, 3, 0, 8] [0, 1, 2, 3, 4, 5, 6, 7, 8] (by kernel_rfl) ?_
  refine TP.free (Wants.none rfl) rfl (fun _ => Gets.move rfl rfl) ?_
  refine TP.free (Wants.none rfl) rfl (fun _ => Gets.fieldAddr rfl Try.underlying62 rfl size59 rfl (off' := 0) (by first | rfl | omega)) ?_
  refine TP.stay (Wants.none rfl) rfl (fun H' => Gets.load1 rfl agg59 rfl (At.ent (i := 0) (ent := ⟨g1, 62, [Value.pointer (some ⟨g, 0, none⟩)], 1⟩) (off := 0) rfl rfl (by exact rfl))) ?_
  refine TP.free (Wants.none rfl) rfl (fun _ => Gets.fieldAddr rfl Try.underlying62 rfl size59 rfl (off' := 0) (by first | rfl | omega)) ?_
  refine TP.stay (Wants.none rfl) rfl (fun H' => Gets.load1 rfl agg59 rfl (At.ent (i := 0) (ent := ⟨g1, 62, [Value.pointer (some ⟨g, 0, none⟩)], 1⟩) (off := 0) rfl rfl (by exact rfl))) ?_
  refine TP.call (ι := Unit) (V := fun _ => .int .i64 ((rLen B s).1)) (R := fun _ => True) (H' := fun _ => [⟨g2, 47, [Value.int .i64 0, Value.int .i64 0, Value.int .i64 0, Value.int .i64 0, Value.slice none 0 0], 5⟩, ⟨g, 87, [Value.slice A m c, Value.int .i64 ((rLen B s).2.k : Int), Value.int .i64 ((rLen B s).2.co), Value.int .i64 ((rLen B s).2.po)], 4⟩]) (Wants.none rfl) rfl enters44 rfl rfl (fun w hs => (wlen_s g A m c s w (hs.has (⟨g, 87, [Value.slice A m c, Value.int .i64 (s.k : Int), Value.int .i64 s.co, Value.int .i64 s.po], 4⟩) (by simp)) (by omega) (by omega) (by omega) B (hX.at_ hs (fun b hb hbX => (ne_app (ne_cons (by show g1 ≠ b; omega) ne_nil) (ne_cons (by show g2 ≠ b; omega) (ne_cons (fun h => hbX g (by simp) h.symm) ne_nil))))) hBB).mono fun e w' ⟨he, hw⟩ => ⟨(), he, trivial, St.turn (i := 2) (e := ⟨g, 87, [Value.slice A m c, Value.int .i64 ((rLen B s).2.k : Int), Value.int .i64 ((rLen B s).2.co), Value.int .i64 ((rLen B s).2.po)], 4⟩) hs rfl rfl hw⟩) (fun _ _ => ?_)
  have hvm_ := rLen_val hBB s
  have hrim_ := rLen_ri hri
  generalize hm_ : rLen B s = m_ at hvm_ hrim_ ⊢
  have hkm_ : m_.2.k ≤ m := by have := hrim_.1; omega
  refine TP.call (ι := Value × List Ent) (V := fun y => y.1) (R := fun y => Own w.heap.size 5 .u8 y.1 (rBytes B m_.2 m_.1.toNat).1 y.2) (H' := fun y => [⟨g2, 47, [Value.int .i64 0, Value.int .i64 0, Value.int .i64 0, Value.int .i64 0, Value.slice none 0 0], 5⟩, ⟨g, 87, [Value.slice A m c, Value.int .i64 ((rBytes B m_.2 m_.1.toNat).2.k : Int), Value.int .i64 ((rBytes B m_.2 m_.1.toNat).2.co), Value.int .i64 ((rBytes B m_.2 m_.1.toNat).2.po)], 4⟩] ++ y.2) (Wants.none rfl) rfl enters62 rfl rfl (fun w hs => (wbytes_s g A m c m_.2 m_.1 (by omega) w (hs.has (⟨g, 87, [Value.slice A m c, Value.int .i64 (m_.2.k : Int), Value.int .i64 m_.2.co, Value.int .i64 m_.2.po], 4⟩) (by simp)) (by omega) (by omega) (by omega) B (hX.at_ hs (fun b hb hbX => (ne_app (ne_cons (by show g1 ≠ b; omega) ne_nil) (ne_cons (by show g2 ≠ b; omega) (ne_cons (fun h => hbX g (by simp) h.symm) ne_nil))))) hBB hm).mono fun e w' ⟨v, He, he, ho, hw⟩ => ⟨(v, He), he, own_mono ho hs.size, (St.turnE (i := 2) (e := ⟨g, 87, [Value.slice A m c, Value.int .i64 ((rBytes B m_.2 m_.1.toNat).2.k : Int), Value.int .i64 ((rBytes B m_.2 m_.1.toNat).2.co), Value.int .i64 ((rBytes B m_.2 m_.1.toNat).2.po)], 4⟩) hs rfl rfl hw ho.new)⟩) (fun y hR => ?_)
  obtain ⟨vD_, HD_⟩ := y
  dsimp only at hR ⊢
  have hOD_ : Own w.heap.size 5 .u8 vD_ (rBytes B m_.2 m_.1.toNat).1 HD_ := hR
  have hbbD_ := rBytes_bytes hBB m_.2 m_.1.toNat
  have hblD_ := rBytes_len (B := B) m_.2 m_.1.toNat
  have hriD_ := rBytes_ri (n := m_.1.toNat) hrim_
  generalize hD_ : rBytes B m_.2 m_.1.toNat = D_ at hOD_ hriD_ hbbD_ hblD_ ⊢
  have hkD_ : D_.2.k ≤ m := by have := hriD_.1; omega
  obtain ⟨AD_, cD_, rfl, hcD_, hdD_⟩ := hOD_.form
  refine TP.free (Wants.none rfl) rfl (fun _ => Gets.build rfl (vs := [(0, Value.int .i64 2), (1, Value.int .i64 to), (4, Value.slice AD_ D_.1.length cD_)]) rfl (fun w => by first | rfl | kernel_rfl) (v := .agg ([Value.int .i64 2, Value.int .i64 to, Value.int .i64 0, Value.int .i64 0, Value.slice AD_ D_.1.length cD_]).toArray)) ?_
  refine TP.storeW (Wants.none rfl) rfl rfl size47 rfl (vs := [Value.int .i64 2, Value.int .i64 to, Value.int .i64 0, Value.int .i64 0, Value.slice AD_ D_.1.length cD_]) rfl (by simp []) (by simp [Value.oneCell']) (i := 1) (ent := ⟨g2, 47, [Value.int .i64 0, Value.int .i64 0, Value.int .i64 0, Value.int .i64 0, Value.slice none 0 0], 5⟩) rfl rfl (by simp []) (H' := [⟨g2, 47, [Value.int .i64 2, Value.int .i64 to, Value.int .i64 0, Value.int .i64 0, Value.slice AD_ D_.1.length cD_], 5⟩, ⟨g, 87, [Value.slice A m c, Value.int .i64 (D_.2.k : Int), Value.int .i64 D_.2.co, Value.int .i64 D_.2.po], 4⟩] ++ HD_) rfl ?_
  refine TP.nil ?_
  refine TE.heap (H' := [⟨g1, 62, [Value.pointer (some ⟨g, 0, none⟩)], 1⟩, ⟨g2, 47, [Value.int .i64 2, Value.int .i64 to, Value.int .i64 0, Value.int .i64 0, Value.slice AD_ D_.1.length cD_], 5⟩, ⟨g, 87, [Value.slice A m c, Value.int .i64 (D_.2.k : Int), Value.int .i64 D_.2.co, Value.int .i64 D_.2.po], 4⟩] ++ HD_) (fun w h => h) ?_
  iterate 2 refine gx ?_
  exact TE.retC rfl agg47 size47 rfl (vs := [Value.int .i64 2, Value.int .i64 to, Value.int .i64 0, Value.int .i64 0, Value.slice AD_ D_.1.length cD_]) rfl (Row.all (i := 1) (ent := ⟨g2, 47, [Value.int .i64 2, Value.int .i64 to, Value.int .i64 0, Value.int .i64 0, Value.slice AD_ D_.1.length cD_], 5⟩) rfl rfl rfl) (fun w hs => ⟨AD_, cD_, HD_, rfl, hOD_, ((hs.erase (i := 1) rfl (by assumption)).erase (i := 0) rfl (by assumption))⟩)
end Go.Proofs.Ytclmgfcdnokaiaa
/-
  The code of layer 7: command.
-/
namespace Go.Proofs.Ytclmgfcdnokaiaa
set_option linter.unusedVariables false
set_option linter.unusedSimpArgs false
open Go Go.RowKit
theorem enters63 : Enters Try.prog 63 := ⟨_, Try.func63, by kernel_rfl, by kernel_rfl⟩
theorem enters64 : Enters Try.prog 64 := ⟨_, Try.func64, by kernel_rfl, by kernel_rfl⟩
theorem zero108 : (Try.prog.info? 108).bind (·.zero) = some (.nilFunc) := by kernel_rfl
instance : AgN Try.prog 59 := ⟨agg59⟩
instance : Fld Try.prog 62 0 0 := ⟨⟨_, _, _, Try.underlying62, rfl, size59, rfl⟩⟩
set_option maxRecDepth 100000 in
set_option maxHeartbeats 2000000 in
theorem command_s (g : Nat) (A : Option Addr) (m c : Nat) (s : RS) (w : World) (hl : Ent.lies ⟨g, 87, rdC A m c s.k s.co s.po, rdN⟩ w) (hk : s.k ≤ m) (hmc : m ≤ c) (hcm : c ≤ 9223372036854775807) (B : List Int) (hX : SrcX w [g] A m .u8 B) (hBB : Bytes B) (hri : RI B s) (hm : m ≤ 1000000) (bm cc : Nat) (es : Array MapEntry) (hMp : w.heap[bm]? = some (.map es cc)) (hes : es.toList = [⟨.int .u64 1, Value.func (.func 63) #[.agg ([Value.pointer (some ⟨g, 0, none⟩)]).toArray] #[], 0⟩, ⟨.int .u64 2, Value.func (.func 64) #[.agg ([Value.pointer (some ⟨g, 0, none⟩)]).toArray] #[], 1⟩])  : Calls Try.prog 65 #[.agg ([Value.pointer (some ⟨g, 0, none⟩)]).toArray, .map (some bm)] w fun e w' => ∃ (y : CV) (He : List Ent), e = .returned (.agg ([Value.int .i64 y.k, Value.int .i64 y.t, Value.int .i64 y.f, Value.int .i64 y.l, Value.slice y.A y.m y.c]).toArray) ∧ Own w.heap.size 5 .u8 (.slice y.A y.m y.c) y.B He ∧ y.B.length = y.m ∧ ((rCmd B s).2.co = 0 → cmC y = (rCmd B s).1) ∧ NumC y ∧ Bytes y.B ∧ St w ((⟨g, 87, rdC A m c (rCmd B s).2.k (rCmd B s).2.co (rCmd B s).2.po, rdN⟩ : Ent) :: He) w' := by
  have hBm := hX.1
  have hg : g < w.heap.size := hl.lt
  have hbm : bm < w.heap.size := (Array.getElem?_eq_some_iff.1 hMp).1
  have hgb : g ≠ bm := by rintro rfl; obtain ⟨cur, h1, _⟩ := hl; rw [hMp] at h1; cases h1
  refine calls_from (args := [.agg ([Value.pointer (some ⟨g, 0, none⟩)]).toArray, .map (some bm)]) Try.func65 rfl Try.ntmps65 (by simp) ?_
  refine TC.pr [0, 1] ?_
  refine TC.heap (H' := [⟨g, 87, [Value.slice A m c, Value.int .i64 (s.k : Int), Value.int .i64 s.co, Value.int .i64 s.po], 4⟩]) (fun w hs => hs.take hl ne_nil) ?_
  iterate 2 refine gx ?_
  refine TL.bxA (fun g1 hg1 => ?_)
  refine TL.al (fun g2 hg2 => ?_)
  iterate 6 refine gx ?_
  refine TL.call0 (Wants.none rfl) rfl enters50 rfl rfl (v := .int .i64 (s.k : Int)) (fun w hs => at_c g A m c s.k s.co s.po w (hs.has (⟨g, 87, [Value.slice A m c, Value.int .i64 (s.k : Int), Value.int .i64 s.co, Value.int .i64 s.po], 4⟩) (by simp))) ?_
  iterate 8 refine gx ?_
  refine TL.call (ι := Unit) (V := fun _ => .int .u64 ((rUint B s 1).1)) (R := fun _ => True) (H' := fun _ => [⟨g2, 47, [Value.int .i64 0, Value.int .i64 0, Value.int .i64 0, Value.int .i64 0, Value.slice none 0 0], 5⟩, ⟨g1, 62, [Value.pointer (some ⟨g, 0, none⟩)], 1⟩, ⟨g, 87, [Value.slice A m c, Value.int .i64 ((rUint B s 1).2.k : Int), Value.int .i64 ((rUint B s 1).2.co), Value.int .i64 ((rUint B s 1).2.po)], 4⟩]) (Wants.none rfl) rfl enters47 rfl rfl (fun w hs => (wuint_s g A m c s 1 (by omega) w (hs.has (⟨g, 87, [Value.slice A m c, Value.int .i64 (s.k : Int), Value.int .i64 s.co, Value.int .i64 s.po], 4⟩) (by simp)) (by omega) (by omega) (by omega) B (hX.at_ hs (fun b hb hbX => (ne_cons (by show g2 ≠ b; omega) (ne_cons (by show g1 ≠ b; omega) (ne_cons (fun h => hbX g (by simp) h.symm) ne_nil))))) hBB).mono fun e w' ⟨he, hw⟩ => ⟨(), he, trivial, St.turn (i := 2) (e := ⟨g, 87, [Value.slice A m c, Value.int .i64 ((rUint B s 1).2.k : Int), Value.int .i64 ((rUint B s 1).2.co), Value.int .i64 ((rUint B s 1).2.po)], 4⟩) hs rfl rfl hw⟩) (fun _ _ => ?_)
  have hvx := rUint_val1 hBB s
  have hrix := rUint_ri (n := 1) hri
  generalize hx : rUint B s 1 = x at hvx hrix ⊢
  have hkx : x.2.k ≤ m := by have := hrix.1; omega
  by_cases hk16_0 : x.1 = 1
  · refine TL.gets (Wants.none rfl) rfl (Gets.lookYes hMp (ne_cons (by show g2 ≠ bm; omega) (ne_cons (by show g1 ≠ bm; omega) (ne_cons (by show g ≠ bm; omega) ne_nil))) rfl Try.underlying101 Try.underlying51 zero108 rfl rfl (show Instr.findNow _ _ _ 0 = some (some (0, Value.func (.func 63) #[.agg ([Value.pointer (some ⟨g, 0, none⟩)]).toArray] #[])) from by rw [hes]; exact (find_is hk16_0))) ?_
    iterate 7 refine gx ?_
    refine TC.pr [2, 4, 5, 6, 7] ?_
    iterate 2 refine gx ?_
    have hk1 := hk16_0
    have hkf : kindF x.2 x.1 s.k = x.2 := kindF_F (fun h => h.2.1 hk1)
    iterate 5 refine gx ?_
    refine TC.no rfl ?_
    iterate 7 refine gx ?_
    refine TL.call (ι := Unit) (V := fun _ => .int .i64 ((rLen B x.2).1)) (R := fun _ => True) (H' := fun _ => [⟨g2, 47, [Value.int .i64 0, Value.int .i64 0, Value.int .i64 0, Value.int .i64 0, Value.slice none 0 0], 5⟩, ⟨g1, 62, [Value.pointer (some ⟨g, 0, none⟩)], 1⟩, ⟨g, 87, [Value.slice A m c, Value.int .i64 ((rLen B x.2).2.k : Int), Value.int .i64 ((rLen B x.2).2.co), Value.int .i64 ((rLen B x.2).2.po)], 4⟩]) (Wants.none rfl) rfl enters44 rfl rfl (fun w hs => (wlen_s g A m c x.2 w (hs.has (⟨g, 87, [Value.slice A m c, Value.int .i64 (x.2.k : Int), Value.int .i64 x.2.co, Value.int .i64 x.2.po], 4⟩) (by simp)) (by omega) (by omega) (by omega) B (hX.at_ hs (fun b hb hbX => (ne_cons (by show g2 ≠ b; omega) (ne_cons (by show g1 ≠ b; omega) (ne_cons (fun h => hbX g (by simp) h.symm) ne_nil))))) hBB).mono fun e w' ⟨he, hw⟩ => ⟨(), he, trivial, St.turn (i := 2) (e := ⟨g, 87, [Value.slice A m c, Value.int .i64 ((rLen B x.2).2.k : Int), Value.int .i64 ((rLen B x.2).2.co), Value.int .i64 ((rLen B x.2).2.po)], 4⟩) hs rfl rfl hw⟩) (fun _ _ => ?_)
    have hvt_ := rLen_val hBB x.2
    have hrit_ := rLen_ri hrix
    generalize ht_ : rLen B x.2 = t_ at hvt_ hrit_ ⊢
    have hkt_ : t_.2.k ≤ m := by have := hrit_.1; omega
    refine TL.callG (ι := Unit) (V := fun _ => .agg ([Value.int .i64 1, Value.int .i64 t_.1, Value.int .i64 ((rLen B t_.2).1), Value.int .i64 ((rLen B (rLen B t_.2).2).1), Value.slice none 0 0]).toArray) (R := fun _ => True) (H' := fun _ => [⟨g2, 47, [Value.int .i64 0, Value.int .i64 0, Value.int .i64 0, Value.int .i64 0, Value.slice none 0 0], 5⟩, ⟨g1, 62, [Value.pointer (some ⟨g, 0, none⟩)], 1⟩, ⟨g, 87, [Value.slice A m c, Value.int .i64 ((rLen B (rLen B t_.2).2).2.k : Int), Value.int .i64 ((rLen B (rLen B t_.2).2).2.co), Value.int .i64 ((rLen B (rLen B t_.2).2).2.po)], 4⟩]) (Wants.none rfl) rfl enters63 rfl rfl rfl (fun w hs => (copying_s g A m c t_.2 t_.1 w (hs.has (⟨g, 87, [Value.slice A m c, Value.int .i64 (t_.2.k : Int), Value.int .i64 t_.2.co, Value.int .i64 t_.2.po], 4⟩) (by simp)) (by omega) (by omega) (by omega) B (hX.at_ hs (fun b hb hbX => (ne_cons (by show g2 ≠ b; omega) (ne_cons (by show g1 ≠ b; omega) (ne_cons (fun h => hbX g (by simp) h.symm) ne_nil))))) hBB hrit_ hm).mono fun e w' ⟨he, hw⟩ => ⟨(), he, trivial, St.turn (i := 2) (e := ⟨g, 87, [Value.slice A m c, Value.int .i64 ((rLen B (rLen B t_.2).2).2.k : Int), Value.int .i64 ((rLen B (rLen B t_.2).2).2.co), Value.int .i64 ((rLen B (rLen B t_.2).2).2.po)], 4⟩) hs rfl rfl hw⟩) (fun _ _ => ?_)
    have hvf_ := rLen_val hBB t_.2
    have hrif_ := rLen_ri hrit_
    generalize hf_ : rLen B t_.2 = f_ at hvf_ hrif_ ⊢
    have hkf_ : f_.2.k ≤ m := by have := hrif_.1; omega
    have hvl_ := rLen_val hBB f_.2
    have hril_ := rLen_ri hrif_
    generalize hl_ : rLen B f_.2 = l_ at hvl_ hril_ ⊢
    have hkl_ : l_.2.k ≤ m := by have := hril_.1; omega
    iterate 4 refine gx ?_
    have e0 := rCmd_copy hx hkf ht_ hk1 hf_ hl_
    rw [e0]
    exact TE.retC rfl agg47 size47 rfl (vs := [Value.int .i64 1, Value.int .i64 t_.1, Value.int .i64 f_.1, Value.int .i64 l_.1, Value.slice none 0 0]) rfl (Row.all (i := 0) (ent := ⟨g2, 47, [Value.int .i64 1, Value.int .i64 t_.1, Value.int .i64 f_.1, Value.int .i64 l_.1, Value.slice none 0 0], 5⟩) rfl rfl rfl) (fun w hs => ⟨(⟨1, t_.1, f_.1, l_.1, none, 0, 0, []⟩ : CV), [], rfl, Own.nil _ _ _, rfl, fun _ => by show (⟨1, t_.1, f_.1, l_.1, []⟩ : CM) = _; rw [hk1], by unfold NumC; dsimp only; omega, (fun z hz => by cases hz), ((hs.erase (i := 1) rfl (by assumption)).erase (i := 0) rfl (by assumption))⟩)
  · by_cases hk16_1 : x.1 = 2
    · refine TL.gets (Wants.none rfl) rfl (Gets.lookYes hMp (ne_cons (by show g2 ≠ bm; omega) (ne_cons (by show g1 ≠ bm; omega) (ne_cons (by show g ≠ bm; omega) ne_nil))) rfl Try.underlying101 Try.underlying51 zero108 rfl rfl (show Instr.findNow _ _ _ 0 = some (some (1, Value.func (.func 64) #[.agg ([Value.pointer (some ⟨g, 0, none⟩)]).toArray] #[])) from by rw [hes]; exact (find_no hk16_0 (find_is hk16_1)))) ?_
      iterate 7 refine gx ?_
      refine TC.pr [2, 4, 5, 6, 7] ?_
      iterate 2 refine gx ?_
      have hk1 := hk16_0
      have hk2 := hk16_1
      have hkf : kindF x.2 x.1 s.k = x.2 := kindF_F (fun h => h.2.2 hk2)
      iterate 5 refine gx ?_
      refine TC.no rfl ?_
      iterate 7 refine gx ?_
      refine TL.call (ι := Unit) (V := fun _ => .int .i64 ((rLen B x.2).1)) (R := fun _ => True) (H' := fun _ => [⟨g2, 47, [Value.int .i64 0, Value.int .i64 0, Value.int .i64 0, Value.int .i64 0, Value.slice none 0 0], 5⟩, ⟨g1, 62, [Value.pointer (some ⟨g, 0, none⟩)], 1⟩, ⟨g, 87, [Value.slice A m c, Value.int .i64 ((rLen B x.2).2.k : Int), Value.int .i64 ((rLen B x.2).2.co), Value.int .i64 ((rLen B x.2).2.po)], 4⟩]) (Wants.none rfl) rfl enters44 rfl rfl (fun w hs => (wlen_s g A m c x.2 w (hs.has (⟨g, 87, [Value.slice A m c, Value.int .i64 (x.2.k : Int), Value.int .i64 x.2.co, Value.int .i64 x.2.po], 4⟩) (by simp)) (by omega) (by omega) (by omega) B (hX.at_ hs (fun b hb hbX => (ne_cons (by show g2 ≠ b; omega) (ne_cons (by show g1 ≠ b; omega) (ne_cons (fun h => hbX g (by simp) h.symm) ne_nil))))) hBB).mono fun e w' ⟨he, hw⟩ => ⟨(), he, trivial, St.turn (i := 2) (e := ⟨g, 87, [Value.slice A m c, Value.int .i64 ((rLen B x.2).2.k : Int), Value.int .i64 ((rLen B x.2).2.co), Value.int .i64 ((rLen B x.2).2.po)], 4⟩) hs rfl rfl hw⟩) (fun _ _ => ?_)
      have hvt_ := rLen_val hBB x.2
      have hrit_ := rLen_ri hrix
      generalize ht_ : rLen B x.2 = t_ at hvt_ hrit_ ⊢
      have hkt_ : t_.2.k ≤ m := by have := hrit_.1; omega
      refine TL.callG (ι := (Option Addr × Nat) × List Ent) (V := fun y => .agg ([Value.int .i64 2, Value.int .i64 t_.1, Value.int .i64 0, Value.int .i64 0, Value.slice y.1.1 (((rBytes B (rLen B t_.2).2 (rLen B t_.2).1.toNat).1.length)) y.1.2]).toArray) (R := fun y => Own w.heap.size 5 .u8 (.slice y.1.1 (rBytes B (rLen B t_.2).2 (rLen B t_.2).1.toNat).1.length y.1.2) (rBytes B (rLen B t_.2).2 (rLen B t_.2).1.toNat).1 y.2) (H' := fun y => [⟨g2, 47, [Value.int .i64 0, Value.int .i64 0, Value.int .i64 0, Value.int .i64 0, Value.slice none 0 0], 5⟩, ⟨g1, 62, [Value.pointer (some ⟨g, 0, none⟩)], 1⟩, ⟨g, 87, [Value.slice A m c, Value.int .i64 ((rBytes B (rLen B t_.2).2 (rLen B t_.2).1.toNat).2.k : Int), Value.int .i64 ((rBytes B (rLen B t_.2).2 (rLen B t_.2).1.toNat).2.co), Value.int .i64 ((rBytes B (rLen B t_.2).2 (rLen B t_.2).1.toNat).2.po)], 4⟩] ++ y.2) (Wants.none rfl) rfl enters64 rfl rfl rfl (fun w hs => (literal_s g A m c t_.2 t_.1 w (hs.has (⟨g, 87, [Value.slice A m c, Value.int .i64 (t_.2.k : Int), Value.int .i64 t_.2.co, Value.int .i64 t_.2.po], 4⟩) (by simp)) (by omega) (by omega) (by omega) B (hX.at_ hs (fun b hb hbX => (ne_cons (by show g2 ≠ b; omega) (ne_cons (by show g1 ≠ b; omega) (ne_cons (fun h => hbX g (by simp) h.symm) ne_nil))))) hBB hrit_ hm).mono fun e w' ⟨A1, c1, He, he, ho, hw⟩ => ⟨((A1, c1), He), he, own_mono ho hs.size, (St.turnE (i := 2) (e := ⟨g, 87, [Value.slice A m c, Value.int .i64 ((rBytes B (rLen B t_.2).2 (rLen B t_.2).1.toNat).2.k : Int), Value.int .i64 ((rBytes B (rLen B t_.2).2 (rLen B t_.2).1.toNat).2.co), Value.int .i64 ((rBytes B (rLen B t_.2).2 (rLen B t_.2).1.toNat).2.po)], 4⟩) hs rfl rfl hw ho.new)⟩) (fun y hR => ?_)
      obtain ⟨⟨AD_, cD_⟩, HD_⟩ := y
      dsimp only at hR ⊢
      have hvm_ := rLen_val hBB t_.2
      have hrim_ := rLen_ri hrit_
      generalize hm_ : rLen B t_.2 = m_ at hvm_ hrim_ hR ⊢
      have hkm_ : m_.2.k ≤ m := by have := hrim_.1; omega
      have hbbD_ := rBytes_bytes hBB m_.2 m_.1.toNat
      have hblD_ := rBytes_len (B := B) m_.2 m_.1.toNat
      have hriD_ := rBytes_ri (n := m_.1.toNat) hrim_
      generalize hD_ : rBytes B m_.2 m_.1.toNat = D_ at hR hriD_ hbbD_ hblD_ ⊢
      have hkD_ : D_.2.k ≤ m := by have := hriD_.1; omega
      obtain ⟨AD2, cD2, hDf, hcD_, hdD_⟩ := hR.form
      cases hDf
      refine TL.storeW (Wants.none rfl) rfl rfl size47 rfl (vs := [Value.int .i64 2, Value.int .i64 t_.1, Value.int .i64 0, Value.int .i64 0, Value.slice AD_ D_.1.length cD_]) rfl (by simp []) (by simp [Value.oneCell']) (i := 0) (ent := ⟨g2, 47, [Value.int .i64 0, Value.int .i64 0, Value.int .i64 0, Value.int .i64 0, Value.slice none 0 0], 5⟩) rfl rfl (by simp []) (H' := [⟨g2, 47, [Value.int .i64 2, Value.int .i64 t_.1, Value.int .i64 0, Value.int .i64 0, Value.slice AD_ D_.1.length cD_], 5⟩, ⟨g1, 62, [Value.pointer (some ⟨g, 0, none⟩)], 1⟩, ⟨g, 87, [Value.slice A m c, Value.int .i64 (D_.2.k : Int), Value.int .i64 D_.2.co, Value.int .i64 D_.2.po], 4⟩] ++ HD_) rfl ?_
      iterate 3 refine gx ?_
      have e0 := rCmd_lit hx hkf ht_ (by omega) hm_ hD_
      rw [e0]
      exact TE.retC rfl agg47 size47 rfl (vs := [Value.int .i64 2, Value.int .i64 t_.1, Value.int .i64 0, Value.int .i64 0, Value.slice AD_ D_.1.length cD_]) rfl (Row.all (i := 0) (ent := ⟨g2, 47, [Value.int .i64 2, Value.int .i64 t_.1, Value.int .i64 0, Value.int .i64 0, Value.slice AD_ D_.1.length cD_], 5⟩) rfl rfl rfl) (fun w hs => ⟨(⟨2, t_.1, 0, 0, AD_, D_.1.length, cD_, D_.1⟩ : CV), HD_, rfl, hR, rfl, fun _ => by show (⟨2, t_.1, 0, 0, D_.1⟩ : CM) = _; rw [hk2], by unfold NumC; dsimp only; omega, hbbD_, ((hs.erase (i := 1) rfl (by assumption)).erase (i := 0) rfl (by assumption))⟩)
    · refine TL.gets (Wants.none rfl) rfl (Gets.lookNo hMp (ne_cons (by show g2 ≠ bm; omega) (ne_cons (by show g1 ≠ bm; omega) (ne_cons (by show g ≠ bm; omega) ne_nil))) rfl Try.underlying101 Try.underlying51 zero108 rfl rfl (show Instr.findNow _ _ _ 0 = some none from by rw [hes]; exact (find_no hk16_0 (find_no hk16_1 find_nil)))) ?_
      iterate 7 refine gx ?_
      refine TC.pr [2, 4, 5, 6, 7] ?_
      iterate 2 refine gx ?_
      have hk1 := hk16_0
      have hk2 := hk16_1
      iterate 5 refine gx ?_
      refine TC.yes rfl ?_
      iterate 5 refine gx ?_
      refine TL.call (ι := Unit) (V := fun _ => .tuple #[]) (R := fun _ => True) (H' := fun _ => [⟨g2, 47, [Value.int .i64 0, Value.int .i64 0, Value.int .i64 0, Value.int .i64 0, Value.slice none 0 0], 5⟩, ⟨g1, 62, [Value.pointer (some ⟨g, 0, none⟩)], 1⟩, ⟨g, 87, [Value.slice A m c, Value.int .i64 ((rFail x.2 11 (s.k : Int)).k : Int), Value.int .i64 ((rFail x.2 11 (s.k : Int)).co), Value.int .i64 ((rFail x.2 11 (s.k : Int)).po)], 4⟩]) (Wants.none rfl) rfl enters49 rfl rfl (fun w hs => (wfail_s g A m c x.2 11 (s.k : Int) (by decide) w (hs.has (⟨g, 87, [Value.slice A m c, Value.int .i64 (x.2.k : Int), Value.int .i64 x.2.co, Value.int .i64 x.2.po], 4⟩) (by simp))).mono fun e w' ⟨he, hw⟩ => ⟨(), he, trivial, St.turn (i := 2) (e := ⟨g, 87, [Value.slice A m c, Value.int .i64 ((rFail x.2 11 (s.k : Int)).k : Int), Value.int .i64 ((rFail x.2 11 (s.k : Int)).co), Value.int .i64 ((rFail x.2 11 (s.k : Int)).po)], 4⟩) hs rfl rfl hw⟩) (fun _ _ => ?_)
      iterate 2 refine gx ?_
      refine TC.pr [2, 4, 6] ?_
      iterate 2 refine gx ?_
      refine TL.gets (Wants.none rfl) rfl (Gets.build rfl (vs := []) rfl (fun w => by first | rfl | kernel_rfl) (v := .agg ([Value.int .i64 0, Value.int .i64 0, Value.int .i64 0, Value.int .i64 0, Value.slice none 0 0]).toArray)) ?_
      iterate 5 refine gx ?_
      have hb0 := rCmd_bad hx hk1 hk2
      rw [hb0.1]
      exact TE.retC rfl agg47 size47 rfl (vs := [Value.int .i64 0, Value.int .i64 0, Value.int .i64 0, Value.int .i64 0, Value.slice none 0 0]) rfl (Row.all (i := 0) (ent := ⟨g2, 47, [Value.int .i64 0, Value.int .i64 0, Value.int .i64 0, Value.int .i64 0, Value.slice none 0 0], 5⟩) rfl rfl rfl) (fun w hs => ⟨(⟨0, 0, 0, 0, none, 0, 0, []⟩ : CV), [], rfl, Own.nil _ _ _, rfl, fun h => absurd h hb0.2, by unfold NumC; dsimp only; omega, (fun z hz => by cases hz), ((hs.erase (i := 1) rfl (by assumption)).erase (i := 0) rfl (by assumption))⟩)
end Go.Proofs.Ytclmgfcdnokaiaa
/-
  The code of layer 7: commands.
-/
namespace Go.Proofs.Ytclmgfcdnokaiaa
set_option linter.unusedVariables false
set_option linter.unusedSimpArgs false
open Go Go.RowKit
theorem agg62 : (isAgg 62).run Try.prog = fun w => .ok true w := isAgg_yes Try.underlying62 rfl
theorem enters65 : Enters Try.prog 65 := ⟨_, Try.func65, by kernel_rfl, by kernel_rfl⟩
theorem geq36 : Try.prog.eqGuardType Try.prog.depth 36 = false := by kernel_rfl
theorem sih36 : Try.prog.stoodInHeld 36 = false := by kernel_rfl
theorem size62 : (Try.prog.info? 62).map (·.size) = some 1 := by kernel_rfl
instance : AgY Try.prog 62 := ⟨agg62⟩
instance : Siz Try.prog 62 1 := ⟨size62⟩
structure WK where
  i : Nat
  v : Value
  HS : List Ent
  HD : List Ent
  Es : List CV
theorem rIter_end {B : List Int} {s : RS} {i n : Nat} (hi : i ≤ n) (h : (rIter B s i).2.co ≠ 0) : rIter B s n = rIter B s i := by
  obtain ⟨d, rfl⟩ := Nat.exists_eq_add_of_le hi
  exact rIter_stop h d
theorem rIter_brk {B : List Int} {s : RS} {i n : Nat} {cm : CM × RS} (hi : i < n) (hcm : rCmd B (rIter B s i).2 = cm) (h : cm.2.co ≠ 0) : (rIter B s n).2 = cm.2 := by
  by_cases hco1 : (rIter B s i).2.co = 0
  · rw [rIter_end (i := i + 1) (by omega) (by rw [rIter_succ_ok hco1, hcm]; exact h), rIter_succ_ok hco1, hcm]
  · rw [rIter_end (i := i) (by omega) hco1, ← hcm, rCmd_dead hco1]
theorem perm_end {A B C : List Ent} : ((A ++ B) ++ C).Perm ((A ++ C) ++ B) := by
  rw [List.append_assoc, List.append_assoc]
  exact List.Perm.append_left A List.perm_append_comm
theorem perm_in {A D S E : List Ent} : (((A ++ D) ++ S) ++ E).Perm ((A ++ (D ++ E)) ++ S) := by
  rw [← List.append_assoc A D E]; exact perm_end

theorem OwnL.more {N : Nat} {Es : List CV} {HD He : List Ent} (h : OwnL N Es HD) (hF : ∀ e ∈ He, N ≤ e.g) : OwnL N Es (HD ++ He) := ⟨fun e he => (List.mem_append.1 he).elim (h.1 e) (hF e), h.2.1, fun w hw => h.2.2 w fun e he => hw e (List.mem_append.2 (.inl he))⟩

set_option maxRecDepth 100000 in
set_option maxHeartbeats 2000000 in
theorem commands_s (g : Nat) (A : Option Addr) (m c : Nat) (s : RS) (n : Int) (hn : 0 ≤ n ∧ n ≤ 4294967295) (w : World) (hl : Ent.lies ⟨g, 87, rdC A m c s.k s.co s.po, rdN⟩ w) (hk : s.k ≤ m) (hmc : m ≤ c) (hcm : c ≤ 9223372036854775807) (B : List Int) (hX : SrcX w [g] A m .u8 B) (hBB : Bytes B) (hri : RI B s) (hm : m ≤ 1000000)  : Calls Try.prog 46 #[.agg ([Value.pointer (some ⟨g, 0, none⟩)]).toArray, .int .i64 n] w fun e w' => ∃ A1 m1 c1 Es He, e = .returned (.slice A1 m1 c1) ∧ (m1 ≤ c1 ∧ c1 ≤ 9223372036854775807) ∧ OwnD w.heap.size A1 m1 Es He ∧ ((rIter B s n.toNat).2.co = 0 → Es.map cmC = (rIter B s n.toNat).1 ∧ Es.length = m1) ∧ St w ((⟨g, 87, rdC A m c (rIter B s n.toNat).2.k (rIter B s n.toNat).2.co (rIter B s n.toNat).2.po, rdN⟩ : Ent) :: He) w' := by
  have hBm := hX.1
  have hg : g < w.heap.size := hl.lt
  refine calls_from (args := [.agg ([Value.pointer (some ⟨g, 0, none⟩)]).toArray, .int .i64 n]) Try.func46 rfl Try.ntmps46 (by simp) ?_
  refine TC.pr [0, 1] ?_
  refine TC.heap (H' := [⟨g, 87, [Value.slice A m c, Value.int .i64 (s.k : Int), Value.int .i64 s.co, Value.int .i64 s.po], 4⟩]) (fun w hs => hs.take hl ne_nil) ?_
  iterate 2 refine gx ?_
  refine TL.bxA (fun g1 hg1 => ?_)
  iterate 5 refine gx ?_
  refine TL.makeMap (Wants.none rfl) rfl rfl (fun wm8 mb8 hbmb8 hlmb8 hnmb8 hwmb8 hMmb8 => ?_)
  refine gx ?_
  refine TL.gets (Wants.none rfl) rfl (Gets.makeFunc rfl rfl rfl) ?_
  refine TL.insertM hwmb8 rfl hbmb8 hnmb8 hMmb8 (Wants.none rfl) rfl rfl Try.underlying101 Try.underlying51 rfl rfl rfl (show Instr.findNow _ _ [] 0 = some none from find_nil) (fun wmb8_0 hwmb8_0 hlmb8_0 hMmb8_0 => ?_)
  refine gx ?_
  refine TL.gets (Wants.none rfl) rfl (Gets.makeFunc rfl rfl rfl) ?_
  refine TL.insertM hwmb8_0 rfl hbmb8 hnmb8 hMmb8_0 (Wants.none rfl) rfl rfl Try.underlying101 Try.underlying51 rfl rfl rfl (show Instr.findNow _ _ [⟨.int .u64 1, Value.func (.func 63) #[.agg ([Value.pointer (some ⟨g, 0, none⟩)]).toArray] #[], 0⟩] 0 = some none from (find_no (by decide) find_nil)) (fun wmb8_1 hwmb8_1 hlmb8_1 hMmb8_1 => ?_)
  iterate 4 refine gx ?_
  refine TC.pr [1, 2, 4, 5] ?_
  refine gx ?_
  have hXm : SrcX wmb8_1 [g1, g] A m .u8 B := (hX.more hg1).at_ hwmb8_1 (fun b hb hbX => ne_cons (fun h => hbX g1 (by simp) h.symm) (ne_cons (fun h => hbX g (by simp) h.symm) ne_nil))
  have hm1 : g1 ≠ mb8 := hnmb8 ⟨g1, 62, [Value.pointer (some ⟨g, 0, none⟩)], 1⟩ (by simp)
  have hm2 : g ≠ mb8 := hnmb8 ⟨g, 87, [Value.slice A m c, Value.int .i64 (s.k : Int), Value.int .i64 s.co, Value.int .i64 s.po], 4⟩ (by simp)
  iterate 12 refine gx ?_
  refine TC.loop (ι := WK) (fun x0 => [(2, .pointer (some ⟨g1, 0, none⟩)), (5, .map (some mb8)), (6, x0.v), (14, .int .i64 n), (15, .int .i64 (x0.i : Int))]) (fun x0 => [⟨g1, 62, [Value.pointer (some ⟨g, 0, none⟩)], 1⟩, ⟨g, 87, [Value.slice A m c, Value.int .i64 ((rIter B s x0.i).2.k : Int), Value.int .i64 ((rIter B s x0.i).2.co), Value.int .i64 ((rIter B s x0.i).2.po)], 4⟩] ++ x0.HD ++ x0.HS) (fun x0 => n.toNat - x0.i) (fun x0 => OwnS wmb8_1.heap.size 47 5 x0.v x0.i (flatC x0.Es) x0.HS ∧ OwnL wmb8_1.heap.size x0.Es x0.HD ∧ (x0.i = 0 ∨ (rIter B s x0.i).2.co = 0) ∧ ((rIter B s x0.i).2.co = 0 → x0.Es.map cmC = (rIter B s x0.i).1) ∧ (x0.i : Int) ≤ n) (⟨0, .slice none 0 0, [], [], []⟩ : WK) ⟨OwnS.nil _ _ _, OwnL.nil _, .inl rfl, fun _ => rfl, by show ((0 : Nat) : Int) ≤ n; omega⟩ (Sub.cons (i := 2) rfl (Sub.cons (i := 5) rfl (Sub.cons (i := 6) rfl (Sub.int (i := 14) rfl (by first | rfl | omega) (Sub.int (i := 15) rfl rfl (Sub.nil)))))) (fun w h => h) (fun x0 hC0 => ?_)
  obtain ⟨i, v, HS, HD, Es⟩ := x0
  obtain ⟨hov, hod, hal, hEs, hin⟩ := hC0
  dsimp only at hov hod hal hEs hin ⊢
  have hFS : Fresh wmb8_1 HS := hov.new
  have hFD : Fresh wmb8_1 HD := hod.1
  have hrii := rIter_ri hri i
  have hki : (rIter B s i).2.k ≤ m := by have := hrii.1; omega
  have hlE : Es.length = i := by have h := hov.1; rw [flatC_len] at h; omega
  iterate 6 refine gx ?_
  refine TC.split rfl (fun hq0 => ?_) (fun hq0 => ?_)
  · iterate 8 refine gx ?_
    refine TL.call (ι := CV × List Ent) (V := fun y => .agg ([Value.int .i64 y.1.k, Value.int .i64 y.1.t, Value.int .i64 y.1.f, Value.int .i64 y.1.l, Value.slice y.1.A y.1.m y.1.c]).toArray) (R := fun y => Own wmb8_1.heap.size 5 .u8 (.slice y.1.A y.1.m y.1.c) y.1.B y.2 ∧ y.1.B.length = y.1.m ∧ ((rCmd B ((rIter B s i).2)).2.co = 0 → cmC y.1 = (rCmd B ((rIter B s i).2)).1) ∧ NumC y.1 ∧ Bytes y.1.B) (H' := fun y => ([⟨g1, 62, [Value.pointer (some ⟨g, 0, none⟩)], 1⟩, ⟨g, 87, [Value.slice A m c, Value.int .i64 ((rCmd B ((rIter B s i).2)).2.k : Int), Value.int .i64 ((rCmd B ((rIter B s i).2)).2.co), Value.int .i64 ((rCmd B ((rIter B s i).2)).2.po)], 4⟩] : List Ent) ++ (HD ++ y.2) ++ HS) (Wants.none rfl) rfl enters65 rfl rfl (fun w' hs => (command_s g A m c ((rIter B s i).2) w' (hs.has (⟨g, 87, [Value.slice A m c, Value.int .i64 ((rIter B s i).2.k : Int), Value.int .i64 ((rIter B s i).2.co), Value.int .i64 ((rIter B s i).2.po)], 4⟩) (by simp)) (by omega) (by omega) (by omega) B ((hXm.at_ hs (fun b hb hbX => ne_app (ne_app (ne_cons (fun h => hbX g1 (by simp) h.symm) (ne_cons (fun h => hbX g (by simp) h.symm) ne_nil)) (hFD.ne hb)) (hFS.ne hb))).sub (Y := [g]) (fun z hz => by rw [List.mem_singleton.1 hz]; simp)) hBB hrii hm mb8 _ _ ((hs.old mb8 hlmb8_1 (fun e he => by rcases List.mem_append.1 he with he | he; rcases List.mem_append.1 he with he | he; simp only [List.mem_cons, List.not_mem_nil, or_false] at he; rcases he with rfl | rfl; exact hm1; exact hm2; exact (hFD.ne hlmb8_1) e he; exact (hFS.ne hlmb8_1) e he)).trans hMmb8_1) rfl).mono fun e w'' ⟨y, He, he, ho, h1, h2, h3, h4, hw⟩ => ⟨(y, He), he, ⟨own_mono ho hs.size, h1, h2, h3, h4⟩, (St.turnE (i := 1) (e := ⟨g, 87, [Value.slice A m c, Value.int .i64 ((rCmd B ((rIter B s i).2)).2.k : Int), Value.int .i64 ((rCmd B ((rIter B s i).2)).2.co), Value.int .i64 ((rCmd B ((rIter B s i).2)).2.po)], 4⟩) hs rfl rfl hw ho.new).perm (perm_in (A := ([⟨g1, 62, [Value.pointer (some ⟨g, 0, none⟩)], 1⟩, ⟨g, 87, [Value.slice A m c, Value.int .i64 ((rCmd B ((rIter B s i).2)).2.k : Int), Value.int .i64 ((rCmd B ((rIter B s i).2)).2.co), Value.int .i64 ((rCmd B ((rIter B s i).2)).2.po)], 4⟩] : List Ent)) (D := HD) (S := HS) (E := He))⟩) (fun y hR => ?_)
    obtain ⟨y, Hy⟩ := y
    obtain ⟨hoy, hly, hcy, hny, hby⟩ := hR
    dsimp only at hoy hly hcy hny hby ⊢
    have hricm := rCmd_ri hrii
    generalize hcm : rCmd B ((rIter B s i).2) = cm at hcy hricm ⊢
    have hFy : Fresh wmb8_1 Hy := hoy.new
    have hFDy := hFD.app hFy
    refine TL.al (fun g2 hg2 => ?_)
    refine TL.storeW (Wants.none rfl) rfl rfl size47 rfl (vs := [Value.int .i64 y.k, Value.int .i64 y.t, Value.int .i64 y.f, Value.int .i64 y.l, Value.slice y.A y.m y.c]) rfl (by simp []) (by simp [Value.oneCell']) (i := 0) (ent := ⟨g2, 47, [Value.int .i64 0, Value.int .i64 0, Value.int .i64 0, Value.int .i64 0, Value.slice none 0 0], 5⟩) rfl rfl (by simp []) (H' := [⟨g2, 47, [Value.int .i64 y.k, Value.int .i64 y.t, Value.int .i64 y.f, Value.int .i64 y.l, Value.slice y.A y.m y.c], 5⟩, ⟨g1, 62, [Value.pointer (some ⟨g, 0, none⟩)], 1⟩, ⟨g, 87, [Value.slice A m c, Value.int .i64 (cm.2.k : Int), Value.int .i64 cm.2.co, Value.int .i64 cm.2.po], 4⟩] ++ (HD ++ Hy) ++ HS) rfl ?_
    iterate 2 refine gx ?_
    refine TC.pr [2, 5, 6, 7, 14, 15] ?_
    iterate 5 refine gx ?_
    refine TL.call0 (Wants.none rfl) rfl enters28 rfl rfl (v := .agg ([Value.int .i64 cm.2.co, Value.int .i64 cm.2.po]).toArray) (fun w hs => fault_c g A m c cm.2.k cm.2.co cm.2.po w (hs.has (⟨g, 87, [Value.slice A m c, Value.int .i64 (cm.2.k : Int), Value.int .i64 cm.2.co, Value.int .i64 cm.2.po], 4⟩) (by simp))) ?_
    refine TL.gets (Wants.none rfl) rfl (Gets.build rfl (vs := []) rfl (fun w => by first | rfl | kernel_rfl) (v := .agg ([Value.int .i64 0, Value.int .i64 0]).toArray)) ?_
    refine TL.gets (Wants.none rfl) rfl (Gets.pairNe rfl Try.underlying36 (by decide) (by decide) rfl rfl Try.underlying29 Try.underlying3 sih36 geq36 rfl rfl) ?_
    iterate 2 refine gx ?_
    refine TC.pr [2, 5, 6, 7, 14, 15, 24] ?_
    refine TC.split rfl (fun hq1 => ?_) (fun hq1 => ?_)
    · iterate 2 refine gx ?_
      refine TE.blockY rfl ?_
      iterate 6 refine gx ?_
      refine TL.gets (Wants.none rfl) rfl (Gets.move rfl rfl) ?_
      iterate 4 refine gx ?_
      refine TE.heap (H' := [⟨g1, 62, [Value.pointer (some ⟨g, 0, none⟩)], 1⟩, ⟨g, 87, [Value.slice A m c, Value.int .i64 (cm.2.k : Int), Value.int .i64 cm.2.co, Value.int .i64 cm.2.po], 4⟩] ++ (HD ++ Hy) ++ HS) (fun w h => h.drop (by assumption)) ?_
      have hco2 : cm.2.co ≠ 0 := fun h => hq1 (hricm.po0.2 h)
      have hen : (rIter B s n.toNat).2 = cm.2 := rIter_brk (by omega) hcm hco2
      refine TE.heap (H' := [⟨g1, 62, [Value.pointer (some ⟨g, 0, none⟩)], 1⟩, ⟨g, 87, [Value.slice A m c, Value.int .i64 (cm.2.k : Int), Value.int .i64 cm.2.co, Value.int .i64 cm.2.po], 4⟩] ++ ((HD ++ Hy) ++ HS)) (fun w h => by rw [← List.append_assoc]; exact h) ?_
      refine TE.rebase hwmb8_1 rfl (hFDy.app hFS) ?_
      obtain ⟨Av, cv, rfl, hcv, hdv⟩ := hov.form
      exact TE.ret1 rfl rfl (fun w hs => ⟨Av, i, cv, Es, (HD ++ Hy) ++ HS, rfl, ⟨hcv, hdv⟩, ownD_of (hov.mono hwmb8_1.size) (OwnL.mono (OwnL.more hod hFy) hwmb8_1.size), fun h => absurd h (by rw [hen]; exact hco2), by rw [hen]; exact hs.drop (by assumption)⟩)
    · iterate 5 refine gx ?_
      refine TL.buildSlice (Wants.none rfl) rfl rfl Try.underlying23 size47 zero47 rfl (by decide) (by decide) (cells := #[.int .i64 y.k, .int .i64 y.t, .int .i64 y.f, .int .i64 y.l, .slice y.A y.m y.c]) (tot := 5) (by kernel_rfl) (cs := [.int .i64 y.k, .int .i64 y.t, .int .i64 y.f, .int .i64 y.l, .slice y.A y.m y.c]) rfl rfl (fun g3 hg3 => ?_)
      refine TL.appendS (H := [Ent.mk g3 47 ([Value.int .i64 y.k, Value.int .i64 y.t, Value.int .i64 y.f, Value.int .i64 y.l, Value.slice y.A y.m y.c]) 5, Ent.mk g2 47 ([Value.int .i64 y.k, Value.int .i64 y.t, Value.int .i64 y.f, Value.int .i64 y.l, Value.slice y.A y.m y.c]) 5, Ent.mk g1 62 ([Value.pointer (some ⟨g, 0, none⟩)]) 1, Ent.mk g 87 ([Value.slice A m c, Value.int .i64 (cm.2.k : Int), Value.int .i64 cm.2.co, Value.int .i64 cm.2.po]) 4] ++ (HD ++ Hy)) (He := HS) (Wants.none rfl) rfl rfl Try.underlying23 mk47 rfl (by decide) rfl rfl (s := 5) (nn := i) (m := 1) (cs := flatC Es) (news := cellsC y) hov rfl (fun w hs => lies_srcV (hs.has (⟨g3, 47, [Value.int .i64 y.k, Value.int .i64 y.t, Value.int .i64 y.f, Value.int .i64 y.l, Value.slice y.A y.m y.c], 5⟩) (by simp))) (by intro u hu; simp only [cellsC, List.mem_cons, List.not_mem_nil, or_false] at hu; rcases hu with rfl | rfl | rfl | rfl | rfl <;> rfl) (by unfold maxLen; omega) (by omega) (fun v1 H1 hv1 => ?_)
      have hF1 : Fresh wmb8_1 H1 := hv1.new
      iterate 4 refine gx ?_
      refine TC.pr [2, 5, 6, 14, 15] ?_
      refine gx ?_
      refine TL.gets (Wants.none rfl) rfl (Gets.add rfl rfl rfl (r := ((i : Int) + 1)) (w64 (by omega) (by omega))) ?_
      iterate 2 refine gx ?_
      have hco2 : cm.2.co = 0 := hricm.po0.1 (Decidable.not_not.1 hq1)
      have hco1 : (rIter B s i).2.co = 0 := Decidable.byContradiction (fun h => by rw [rCmd_dead h] at hcm; rw [← hcm] at hco2; exact h hco2)
      have hst2 : rIter B s (i + 1) = ((rIter B s i).1 ++ [cm.1], cm.2) := by rw [rIter_succ_ok hco1, hcm]
      exact TE.back (⟨i + 1, v1, H1, HD ++ Hy, Es ++ [y]⟩ : WK) (by show n.toNat - (i + 1) < n.toNat - i; omega) ⟨by show OwnS _ _ 5 v1 (i + 1) (flatC (Es ++ [y])) H1; rw [flatC_app, flatC_one]; exact hv1, hod.snoc hoy hny hby, .inr (by show (rIter B s (i + 1)).2.co = 0; rw [hst2]; exact hco2), fun _ => (by show (Es ++ [y]).map cmC = (rIter B s (i + 1)).1; rw [hst2, List.map_append, hEs hco1]; show _ ++ [cmC y] = _; rw [hcy hco2]), by show ((i + 1 : Nat) : Int) ≤ n; omega⟩ (Sub.cons (i := 2) rfl (Sub.cons (i := 5) rfl (Sub.cons (i := 6) rfl (Sub.int (i := 14) rfl (by first | rfl | omega) (Sub.int (i := 15) rfl (by show (i : Int) + 1 = ((i + 1 : Nat) : Int); omega) (Sub.nil)))))) (fun wz h => by show St _ ([⟨g1, 62, [Value.pointer (some ⟨g, 0, none⟩)], 1⟩, ⟨g, 87, [Value.slice A m c, Value.int .i64 ((rIter B s (i + 1)).2.k : Int), Value.int .i64 ((rIter B s (i + 1)).2.co), Value.int .i64 ((rIter B s (i + 1)).2.po)], 4⟩] ++ (HD ++ Hy) ++ H1) wz; rw [hst2]; exact (h.drop (by assumption)).drop (by assumption))
  · iterate 7 refine gx ?_
    refine TL.gets (Wants.none rfl) rfl (Gets.move rfl rfl) ?_
    iterate 4 refine gx ?_
    have hen : rIter B s n.toNat = rIter B s i := by rw [show n.toNat = i by omega]
    refine TE.heap (H' := [⟨g1, 62, [Value.pointer (some ⟨g, 0, none⟩)], 1⟩, ⟨g, 87, [Value.slice A m c, Value.int .i64 ((rIter B s i).2.k : Int), Value.int .i64 ((rIter B s i).2.co), Value.int .i64 ((rIter B s i).2.po)], 4⟩] ++ (HD ++ HS)) (fun w h => by rw [← List.append_assoc]; exact h) ?_
    refine TE.rebase hwmb8_1 rfl (hFD.app hFS) ?_
    obtain ⟨Av, cv, rfl, hcv, hdv⟩ := hov.form
    exact TE.ret1 rfl rfl (fun w hs => ⟨Av, i, cv, Es, HD ++ HS, rfl, ⟨hcv, hdv⟩, ownD_of (hov.mono hwmb8_1.size) (hod.mono hwmb8_1.size), fun h => by rw [hen] at h ⊢; exact ⟨hEs h, hlE⟩, by rw [hen]; exact hs.drop (by assumption)⟩)
end Go.Proofs.Ytclmgfcdnokaiaa
/-
  The code of layer 7: hash.
-/
namespace Go.Proofs.Ytclmgfcdnokaiaa
set_option linter.unusedVariables false
set_option linter.unusedSimpArgs false
open Go Go.RowKit
theorem zero22 : (Try.prog.info? 22).bind (·.zero) = some (.agg #[.int .u8 0, .int .u8 0, .int .u8 0, .int .u8 0, .int .u8 0, .int .u8 0, .int .u8 0, .int .u8 0, .int .u8 0, .int .u8 0, .int .u8 0, .int .u8 0, .int .u8 0, .int .u8 0, .int .u8 0, .int .u8 0, .int .u8 0, .int .u8 0, .int .u8 0, .int .u8 0, .int .u8 0, .int .u8 0, .int .u8 0, .int .u8 0, .int .u8 0, .int .u8 0, .int .u8 0, .int .u8 0, .int .u8 0, .int .u8 0, .int .u8 0, .int .u8 0]) := by kernel_rfl
theorem copy_hash {B : List Int} {n : Nat} (h : B.length = n) : ∃ X : List Int, X.length = 32 ∧ (B.length = 32 → X = B) ∧ (((List.replicate 32 (0 : Int)).map (Value.int .u8)).take 0 ++ (B.take (min n 32)).map (Value.int .u8) ++ ((List.replicate 32 (0 : Int)).map (Value.int .u8)).drop (0 + min n 32)) = X.map (Value.int .u8) := by
  refine ⟨B.take 32 ++ (List.replicate 32 (0 : Int)).drop (min n 32), ?_, fun h2 => ?_, ?_⟩
  · simp only [List.length_append, List.length_take, List.length_drop, List.length_replicate]; omega
  · rw [List.take_of_length_le (by omega), show min n 32 = 32 by omega, List.drop_of_length_le (by simp), List.append_nil]
  · subst h
    rw [List.take_zero, List.nil_append, List.map_append, List.map_drop, Nat.zero_add]
    congr 2
    rw [show min B.length 32 = min 32 B.length from Nat.min_comm .., ← List.take_take, List.take_length]

set_option maxRecDepth 100000 in
set_option maxHeartbeats 2000000 in
theorem hash_s (g : Nat) (A : Option Addr) (m c : Nat) (s : RS) (w : World) (hl : Ent.lies ⟨g, 87, rdC A m c s.k s.co s.po, rdN⟩ w) (hk : s.k ≤ m) (hmc : m ≤ c) (hcm : c ≤ 9223372036854775807) (B : List Int) (hX : SrcX w [g] A m .u8 B) (hBB : Bytes B) (hri : RI B s) (hm : m ≤ 1000000)  : Calls Try.prog 45 #[.agg ([Value.pointer (some ⟨g, 0, none⟩)]).toArray] w fun e w' => ∃ X : List Int, e = .returned (.agg (X.map (Value.int .u8)).toArray) ∧ X.length = 32 ∧ ((rBytes B s 32).1.length = 32 → X = (rBytes B s 32).1) ∧ St w [⟨g, 87, rdC A m c (rBytes B s 32).2.k (rBytes B s 32).2.co (rBytes B s 32).2.po, rdN⟩] w' := by
  have hBm := hX.1
  have hg : g < w.heap.size := hl.lt
  refine calls_from (args := [.agg ([Value.pointer (some ⟨g, 0, none⟩)]).toArray]) Try.func45 rfl Try.ntmps45 (by simp) ?_
  refine TC.pr [0] ?_
  refine TC.heap (H' := [⟨g, 87, [Value.slice A m c, Value.int .i64 (s.k : Int), Value.int .i64 s.co, Value.int .i64 s.po], 4⟩]) (fun w hs => hs.take hl ne_nil) ?_
  iterate 2 refine gx ?_
  refine TL.bxA (fun g1 hg1 => ?_)
  refine TL.alloc (Wants.none rfl) rfl rfl zero22 (cs := (List.replicate 32 0).map (Value.int .u8)) rfl (tot := 32) (by simp) (fun g2 hg2 => ?_)
  iterate 4 refine gx ?_
  refine TL.alloc (Wants.none rfl) rfl rfl zero22 (cs := (List.replicate 32 0).map (Value.int .u8)) rfl (tot := 32) (by simp) (fun g3 hg3 => ?_)
  iterate 3 refine gx ?_
  refine TC.heap (H' := [⟨g1, 62, [Value.pointer (some ⟨g, 0, none⟩)], 1⟩, ⟨g3, 22, (List.replicate 32 0).map (Value.int .u8), 32⟩, ⟨g2, 22, (List.replicate 32 0).map (Value.int .u8), 32⟩, ⟨g, 87, [Value.slice A m c, Value.int .i64 (s.k : Int), Value.int .i64 s.co, Value.int .i64 s.po], 4⟩]) (fun w h => h.perm (perm_pick (p := [2, 0, 1, 3]) (by kernel_rfl) rfl)) ?_
  refine TC.heap (H' := [⟨g1, 62, [Value.pointer (some ⟨g, 0, none⟩)], 1⟩] ++ ([⟨g3, 22, (List.replicate 32 0).map (Value.int .u8), 32⟩, ⟨g2, 22, (List.replicate 32 0).map (Value.int .u8), 32⟩, ⟨g, 87, [Value.slice A m c, Value.int .i64 (s.k : Int), Value.int .i64 s.co, Value.int .i64 s.po], 4⟩])) (fun w h => h) ?_
  refine TC.mixB (HB := [Ent.mk g1 62 ([Value.pointer (some ⟨g, 0, none⟩)]) 1]) (H := [Ent.mk g3 22 ((List.replicate 32 0).map (Value.int .u8)) 32, Ent.mk g2 22 ((List.replicate 32 0).map (Value.int .u8)) 32, Ent.mk g 87 ([Value.slice A m c, Value.int .i64 (s.k : Int), Value.int .i64 s.co, Value.int .i64 s.po]) 4]) (by kernel_rfl) [0, 0, 0, 3, 3] [0, 1, 2, 3, 4] (by kernel_rfl) ?_
  refine TP.free (Wants.none rfl) rfl (fun _ => Gets.sliceA rfl Try.underlying22 size5 rfl bnd.dflt bnd.dflt (by omega) (by omega) (cutA_zero _ _ _) (ln := 32) (cp := 32) (by omega) (by omega)) ?_
  refine TP.free (Wants.none rfl) rfl (fun _ => Gets.fieldAddr rfl Try.underlying62 rfl size59 rfl (off' := 0) (by first | rfl | omega)) ?_
  refine TP.stay (Wants.none rfl) rfl (fun H' => Gets.load1 rfl agg59 rfl (At.ent (i := 0) (ent := ⟨g1, 62, [Value.pointer (some ⟨g, 0, none⟩)], 1⟩) (off := 0) rfl rfl (by exact rfl))) ?_
  refine TP.call (ι := Value × List Ent) (V := fun y => y.1) (R := fun y => Own w.heap.size 5 .u8 y.1 (rBytes B s 32).1 y.2) (H' := fun y => [⟨g3, 22, (List.replicate 32 0).map (Value.int .u8), 32⟩, ⟨g2, 22, (List.replicate 32 0).map (Value.int .u8), 32⟩, ⟨g, 87, [Value.slice A m c, Value.int .i64 ((rBytes B s 32).2.k : Int), Value.int .i64 ((rBytes B s 32).2.co), Value.int .i64 ((rBytes B s 32).2.po)], 4⟩] ++ y.2) (Wants.none rfl) rfl enters62 rfl rfl (fun w hs => (wbytes_s g A m c s 32 (by omega) w (hs.has (⟨g, 87, [Value.slice A m c, Value.int .i64 (s.k : Int), Value.int .i64 s.co, Value.int .i64 s.po], 4⟩) (by simp)) (by omega) (by omega) (by omega) B (hX.at_ hs (fun b hb hbX => (ne_app (ne_cons (by show g1 ≠ b; omega) ne_nil) (ne_cons (by show g3 ≠ b; omega) (ne_cons (by show g2 ≠ b; omega) (ne_cons (fun h => hbX g (by simp) h.symm) ne_nil)))))) hBB hm).mono fun e w' ⟨v, He, he, ho, hw⟩ => ⟨(v, He), he, own_mono ho hs.size, (St.turnE (i := 3) (e := ⟨g, 87, [Value.slice A m c, Value.int .i64 ((rBytes B s 32).2.k : Int), Value.int .i64 ((rBytes B s 32).2.co), Value.int .i64 ((rBytes B s 32).2.po)], 4⟩) hs rfl rfl hw ho.new)⟩) (fun y hR => ?_)
  obtain ⟨vD_, HD_⟩ := y
  dsimp only at hR ⊢
  have hOD_ : Own w.heap.size 5 .u8 vD_ (rBytes B s 32).1 HD_ := hR
  have hbbD_ := rBytes_bytes hBB s 32
  have hblD_ := rBytes_len (B := B) s 32
  have hriD_ := rBytes_ri (n := 32) hri
  generalize hD_ : rBytes B s 32 = D_ at hOD_ hriD_ hbbD_ hblD_ ⊢
  have hkD_ : D_.2.k ≤ m := by have := hriD_.1; omega
  obtain ⟨AD_, cD_, rfl, hcD_, hdD_⟩ := hOD_.form
  obtain ⟨X, hX32, hXe, hXc⟩ := copy_hash (B := D_.1) rfl
  refine TP.copy (Wants.none rfl) rfl rfl Try.underlying28 size5 rfl rfl (i := 1) (ent := ⟨g3, 22, (List.replicate 32 0).map (Value.int .u8), 32⟩) rfl rfl (by simp) (fun w hs => hOD_.srcOf (fun e he => hs.has e (by simp [he]))) (c := min D_.1.length 32) rfl (cs' := X.map (Value.int .u8)) hXc (H' := [⟨g3, 22, X.map (Value.int .u8), 32⟩, ⟨g2, 22, (List.replicate 32 0).map (Value.int .u8), 32⟩, ⟨g, 87, [Value.slice A m c, Value.int .i64 (D_.2.k : Int), Value.int .i64 D_.2.co, Value.int .i64 D_.2.po], 4⟩] ++ HD_) rfl ?_
  refine TP.nil ?_
  refine TE.heap (H' := [⟨g1, 62, [Value.pointer (some ⟨g, 0, none⟩)], 1⟩, ⟨g3, 22, X.map (Value.int .u8), 32⟩, ⟨g2, 22, (List.replicate 32 0).map (Value.int .u8), 32⟩, ⟨g, 87, [Value.slice A m c, Value.int .i64 (D_.2.k : Int), Value.int .i64 D_.2.co, Value.int .i64 D_.2.po], 4⟩] ++ HD_) (fun w h => h) ?_
  refine gx ?_
  refine TC.pr [2, 3] ?_
  iterate 2 refine gx ?_
  refine TL.gets (Wants.none rfl) rfl (Gets.loadN rfl agg22 size22 rfl (vs := X.map (Value.int .u8)) (by simp [hX32]) (Row.all (i := 1) (ent := ⟨g3, 22, X.map (Value.int .u8), 32⟩) rfl rfl rfl)) ?_
  refine TL.storeW (Wants.none rfl) rfl rfl size22 rfl (vs := X.map (Value.int .u8)) rfl (by simp [hX32]) ints_one (i := 2) (ent := ⟨g2, 22, (List.replicate 32 0).map (Value.int .u8), 32⟩) rfl rfl (by simp []) (H' := [⟨g1, 62, [Value.pointer (some ⟨g, 0, none⟩)], 1⟩, ⟨g3, 22, X.map (Value.int .u8), 32⟩, ⟨g2, 22, X.map (Value.int .u8), 32⟩, ⟨g, 87, [Value.slice A m c, Value.int .i64 (D_.2.k : Int), Value.int .i64 D_.2.co, Value.int .i64 D_.2.po], 4⟩] ++ HD_) rfl ?_
  iterate 3 refine gx ?_
  exact TE.retC rfl agg22 size22 rfl (vs := X.map (Value.int .u8)) (by simp [hX32]) (Row.all (i := 2) (ent := ⟨g2, 22, X.map (Value.int .u8), 32⟩) rfl rfl rfl) (fun w hs => ⟨X, rfl, hX32, hXe, (St.left (He := HD_) (((hs.erase (i := 2) rfl (by assumption)).erase (i := 1) rfl (by assumption)).erase (i := 0) rfl (by assumption)) hOD_.fr7)⟩)
end Go.Proofs.Ytclmgfcdnokaiaa
/-
  The code of layer 7: delta.
-/
namespace Go.Proofs.Ytclmgfcdnokaiaa
set_option linter.unusedVariables false
set_option linter.unusedSimpArgs false
open Go Go.RowKit
theorem enters43 : Enters Try.prog 43 := ⟨_, Try.func43, by kernel_rfl, by kernel_rfl⟩
theorem enters45 : Enters Try.prog 45 := ⟨_, Try.func45, by kernel_rfl, by kernel_rfl⟩
theorem enters46 : Enters Try.prog 46 := ⟨_, Try.func46, by kernel_rfl, by kernel_rfl⟩
theorem enters48 : Enters Try.prog 48 := ⟨_, Try.func48, by kernel_rfl, by kernel_rfl⟩
def decF (B : List Int) (z : RS) : DR :=
  let o := rLen B z
  let n := rLen B o.2
  let x := rBytes B n.2 32
  let y := rBytes B x.2 32
  let c := rUint B y.2 4
  let l := rIter B c.2 c.1.toNat
  ⟨o.1, n.1, x.1, y.1, l.1, extraF B l.2⟩
theorem decF_dead {B : List Int} {z : RS} (h : z.co ≠ 0) : (decF B z).s = z := by
  unfold decF
  simp only [rLen_dead h, rBytes_dead h, rUint_dead h, rIter_dead h, extraF_dead h]
theorem decF_is (B : List Int) : rDec B = decF B (versF (rUint B (rExp B ⟨0, 0, 0⟩ magicB 9).2 1).2 (rUint B (rExp B ⟨0, 0, 0⟩ magicB 9).2 1).1) := rfl
theorem exp_vers {B : List Int} (hB : Bytes B) {e1 : Bool × RS} (he : rExp B ⟨0, 0, 0⟩ magicB 9 = e1) : ((rExp B e1.2 [1] 10).2.co = (versF (rUint B e1.2 1).2 (rUint B e1.2 1).1).co ∧ (rExp B e1.2 [1] 10).2.po = (versF (rUint B e1.2 1).2 (rUint B e1.2 1).1).po) ∧ ((versF (rUint B e1.2 1).2 (rUint B e1.2 1).1).co = 0 → (rExp B e1.2 [1] 10).2 = versF (rUint B e1.2 1).2 (rUint B e1.2 1).1) := by
  by_cases h : e1.2.co = 0
  · have h1 := rExp_back (B := B) (s := ⟨0, 0, 0⟩) (D := magicB) (code := 9) (by decide) (by rw [he]; exact h)
    have h2 : e1.2 = ⟨4, 0, 0⟩ := by rw [← he, h1.2.2]; rfl
    rw [h2]
    by_cases hl : B.length < 5
    · have hd : B.drop 4 = [] := List.drop_of_length_le (by omega)
      have a1 : rExp B ⟨4, 0, 0⟩ [1] 10 = (false, ⟨4, 8, B.length⟩) := by
        unfold rExp
        rw [if_pos rfl, if_neg (by dsimp only; rw [hd]; simp), if_pos (by dsimp only; rw [hd, show B.length - 4 = 0 by omega]; rfl)]
      have a2 : rUint B ⟨4, 0, 0⟩ 1 = (0, ⟨4, 8, B.length⟩) := by
        unfold rUint
        rw [if_pos rfl, if_pos (by dsimp only; omega)]
      rw [a1, a2, versF_dead (eight _ _)]
      exact ⟨⟨rfl, rfl⟩, fun _ => rfl⟩
    · obtain ⟨b, R, hR⟩ : ∃ b R, B.drop 4 = b :: R := by
        cases hd : B.drop 4 with
        | nil => have := congrArg List.length hd; rw [List.length_drop] at this; simp at this; omega
        | cons b R => exact ⟨b, R, rfl⟩
      have a2 : rUint B ⟨4, 0, 0⟩ 1 = (b, ⟨5, 0, 0⟩) := by
        unfold rUint
        rw [if_pos rfl, if_neg (by dsimp only; omega)]
        dsimp only
        rw [hR]
        show (valB [b], _) = _
        simp [valB]
      rw [a2]
      by_cases hb : b = 1
      · subst hb
        have a1 : rExp B ⟨4, 0, 0⟩ [1] 10 = (true, ⟨5, 0, 0⟩) := by
          unfold rExp
          rw [if_pos rfl, if_pos (by dsimp only; rw [hR]; rfl)]; rfl
        rw [a1, versF_F (fun h => h.2 rfl)]
        exact ⟨⟨rfl, rfl⟩, fun _ => rfl⟩
      · have a1 : rExp B ⟨4, 0, 0⟩ [1] 10 = (false, ⟨4, 10, 4⟩) := by
          unfold rExp
          rw [if_pos rfl, if_neg (by dsimp only; rw [hR]; show ¬ [b] = [1]; simpa using hb), if_neg (by
            dsimp only; rw [hR]; intro h3
            have h4 := congrArg (List.take 1) h3
            rw [List.take_take, show min 1 (B.length - 4) = 1 by omega] at h4
            have h5 : [1] = [b] := h4
            simp at h5; exact hb h5.symm)]
          unfold rFail; rw [if_pos ⟨rfl, by decide⟩]; rfl
        have a3 : versF ⟨5, 0, 0⟩ b = ⟨5, 10, 4⟩ := by
          rw [versF_T rfl hb]; unfold rFail; rw [if_pos ⟨rfl, by decide⟩]
        rw [a1, a3]
        exact ⟨⟨rfl, rfl⟩, fun h => absurd h (show (10 : Int) ≠ 0 by decide)⟩
  · have a1 : rExp B e1.2 [1] 10 = (false, e1.2) := by unfold rExp; rw [if_neg h]
    rw [a1, rUint_dead h, versF_dead h]
    exact ⟨⟨rfl, rfl⟩, fun _ => rfl⟩
/-- What the code's reader makes of the bytes, and what the reference makes of them. -/
theorem dec_link {B : List Int} (hB : Bytes B) {e1 : Bool × RS} {z : Bool × RS} {d : DR} (he : rExp B ⟨0, 0, 0⟩ magicB 9 = e1) (hz : rExp B e1.2 [1] 10 = z) (hd : decF B z.2 = d) : (d.s.co = (rDec B).s.co ∧ d.s.po = (rDec B).s.po) ∧ ((rDec B).s.co = 0 → rDec B = d) := by
  have h := exp_vers hB he
  have e0 : rDec B = decF B (versF (rUint B e1.2 1).2 (rUint B e1.2 1).1) := by rw [← he]; exact decF_is B
  rw [e0, ← hd]
  rw [hz] at h
  by_cases hc : (versF (rUint B e1.2 1).2 (rUint B e1.2 1).1).co = 0
  · rw [h.2 hc]; exact ⟨⟨rfl, rfl⟩, fun _ => rfl⟩
  · have hc2 : z.2.co ≠ 0 := by rw [h.1.1]; exact hc
    rw [decF_dead hc, decF_dead hc2]
    exact ⟨h.1, fun h0 => absurd h0 hc⟩
theorem extraF_fail {B : List Int} {s : RS} (h : s.k < B.length) : extraF B s = rFail s 12 (s.k : Int) := by
  by_cases hc : s.co = 0
  · unfold extraF; rw [if_pos ⟨hc, h⟩]
  · rw [extraF_dead hc, rFail_dead hc]

set_option maxRecDepth 100000 in
set_option maxHeartbeats 2000000 in
theorem delta_s (g : Nat) (A : Option Addr) (m c : Nat) (w : World) (hl : Ent.lies ⟨g, 87, rdC A m c (⟨0, 0, 0⟩ : RS).k (⟨0, 0, 0⟩ : RS).co (⟨0, 0, 0⟩ : RS).po, rdN⟩ w) (hmc : m ≤ c) (hcm : c ≤ 9223372036854775807) (B : List Int) (hX : SrcX w [g] A m .u8 B) (hBB : Bytes B) (hm : m ≤ 1000000)  : Calls Try.prog 27 #[.agg ([Value.pointer (some ⟨g, 0, none⟩)]).toArray] w fun e w' => ∃ (o n : Int) (X Y : List Int) (A1 : Option Addr) (m1 c1 : Nat) (Es : List CV) (He : List Ent) (q : RS), e = .returned (.agg ([Value.int .i64 o, Value.int .i64 n] ++ (X.map (Value.int .u8) ++ (Y.map (Value.int .u8) ++ ([Value.slice A1 m1 c1])))).toArray) ∧ X.length = 32 ∧ Y.length = 32 ∧ (m1 ≤ c1 ∧ c1 ≤ 9223372036854775807) ∧ OwnD w.heap.size A1 m1 Es He ∧ ((rDec B).s.co = 0 → o = (rDec B).o ∧ n = (rDec B).n ∧ X = (rDec B).h1 ∧ Y = (rDec B).h2 ∧ Es.map cmC = (rDec B).Cs ∧ Es.length = m1) ∧ (q.co = (rDec B).s.co ∧ q.po = (rDec B).s.po) ∧ St w ((⟨g, 87, rdC A m c q.k q.co q.po, rdN⟩ : Ent) :: He) w' := by
  have hBm := hX.1
  have hg : g < w.heap.size := hl.lt
  have hri : RI B ⟨0, 0, 0⟩ := ⟨Nat.zero_le _, .inl ⟨rfl, rfl⟩⟩
  refine calls_from (args := [.agg ([Value.pointer (some ⟨g, 0, none⟩)]).toArray]) Try.func27 rfl Try.ntmps27 (by simp) ?_
  refine TC.pr [0] ?_
  refine TC.heap (H' := [⟨g, 87, [Value.slice A m c, Value.int .i64 0, Value.int .i64 0, Value.int .i64 0], 4⟩]) (fun w hs => hs.take hl ne_nil) ?_
  iterate 2 refine gx ?_
  refine TL.bxA (fun g1 hg1 => ?_)
  refine TL.alloc (Wants.none rfl) rfl rfl zero25 (cs := [Value.int .i64 0, Value.int .i64 0] ++ ((List.replicate 32 (0 : Int)).map (Value.int .u8) ++ ((List.replicate 32 (0 : Int)).map (Value.int .u8) ++ ([Value.slice none 0 0])))) (by first | rfl | kernel_rfl) (tot := 67) (by simp) (fun g2 hg2 => ?_)
  iterate 4 refine gx ?_
  refine TL.alloc (Wants.none rfl) rfl rfl zero25 (cs := [Value.int .i64 0, Value.int .i64 0] ++ ((List.replicate 32 (0 : Int)).map (Value.int .u8) ++ ((List.replicate 32 (0 : Int)).map (Value.int .u8) ++ ([Value.slice none 0 0])))) (by first | rfl | kernel_rfl) (tot := 67) (by simp) (fun g3 hg3 => ?_)
  iterate 3 refine gx ?_
  refine TC.heap (H' := [⟨g1, 62, [Value.pointer (some ⟨g, 0, none⟩)], 1⟩, ⟨g3, 25, [Value.int .i64 0, Value.int .i64 0] ++ ((List.replicate 32 (0 : Int)).map (Value.int .u8) ++ ((List.replicate 32 (0 : Int)).map (Value.int .u8) ++ ([Value.slice none 0 0]))), 67⟩, ⟨g2, 25, [Value.int .i64 0, Value.int .i64 0] ++ ((List.replicate 32 (0 : Int)).map (Value.int .u8) ++ ((List.replicate 32 (0 : Int)).map (Value.int .u8) ++ ([Value.slice none 0 0]))), 67⟩, ⟨g, 87, [Value.slice A m c, Value.int .i64 0, Value.int .i64 0, Value.int .i64 0], 4⟩]) (fun w h => h.perm (perm_pick (p := [2, 0, 1, 3]) (by kernel_rfl) rfl)) ?_
  iterate 3 refine gx ?_
  refine TL.buildSlice (Wants.none rfl) rfl rfl Try.underlying28 size5 zero5 rfl (by decide) (by decide) (cells := #[.int .u8 71, .int .u8 82, .int .u8 70, .int .u8 84]) (tot := 4) (by kernel_rfl) (cs := [.int .u8 71, .int .u8 82, .int .u8 70, .int .u8 84]) rfl rfl (fun g4 hg4 => ?_)
  refine TL.mark2 (Wants.none rfl) rfl rfl Try.underlying28 Try.underlying5 rfl (i := 0) (ent := ⟨g4, 5, [Value.int .u8 71, Value.int .u8 82, Value.int .u8 70, Value.int .u8 84], 4⟩) rfl rfl (W := magicB) rfl (by omega) (fun w1 hap hw1 hrw hgw => ?_)
  have hw1' : St w [⟨g1, 62, [Value.pointer (some ⟨g, 0, none⟩)], 1⟩, ⟨g3, 25, [Value.int .i64 0, Value.int .i64 0] ++ ((List.replicate 32 (0 : Int)).map (Value.int .u8) ++ ((List.replicate 32 (0 : Int)).map (Value.int .u8) ++ ([Value.slice none 0 0]))), 67⟩, ⟨g2, 25, [Value.int .i64 0, Value.int .i64 0] ++ ((List.replicate 32 (0 : Int)).map (Value.int .u8) ++ ((List.replicate 32 (0 : Int)).map (Value.int .u8) ++ ([Value.slice none 0 0]))), 67⟩, ⟨g, 87, [Value.slice A m c, Value.int .i64 0, Value.int .i64 0, Value.int .i64 0], 4⟩] w1 := hw1
  have hnmg1 : g4 ≠ g1 := fun h => hap (⟨g1, 62, [Value.pointer (some ⟨g, 0, none⟩)], 1⟩) (by simp) h.symm
  have hnmg3 : g4 ≠ g3 := fun h => hap (⟨g3, 25, [Value.int .i64 0, Value.int .i64 0] ++ ((List.replicate 32 (0 : Int)).map (Value.int .u8) ++ ((List.replicate 32 (0 : Int)).map (Value.int .u8) ++ ([Value.slice none 0 0]))), 67⟩) (by simp) h.symm
  have hnmg2 : g4 ≠ g2 := fun h => hap (⟨g2, 25, [Value.int .i64 0, Value.int .i64 0] ++ ((List.replicate 32 (0 : Int)).map (Value.int .u8) ++ ((List.replicate 32 (0 : Int)).map (Value.int .u8) ++ ([Value.slice none 0 0]))), 67⟩) (by simp) h.symm
  have hnmg : g4 ≠ g := fun h => hap (⟨g, 87, [Value.slice A m c, Value.int .i64 0, Value.int .i64 0, Value.int .i64 0], 4⟩) (by simp) h.symm
  have hM : SrcX w1 [g] (some ⟨g4, 0, none⟩) 4 .u8 magicB := ⟨rfl, .inr ⟨g4, 0, rfl, hgw, (fun z hz => by rw [List.mem_singleton.1 hz]; exact hnmg), hrw⟩⟩
  refine TL.heap (H' := [⟨g1, 62, [Value.pointer (some ⟨g, 0, none⟩)], 1⟩, ⟨g3, 25, [Value.int .i64 0, Value.int .i64 0] ++ ((List.replicate 32 (0 : Int)).map (Value.int .u8) ++ ((List.replicate 32 (0 : Int)).map (Value.int .u8) ++ ([Value.slice none 0 0]))), 67⟩, ⟨g2, 25, [Value.int .i64 0, Value.int .i64 0] ++ ((List.replicate 32 (0 : Int)).map (Value.int .u8) ++ ((List.replicate 32 (0 : Int)).map (Value.int .u8) ++ ([Value.slice none 0 0]))), 67⟩, ⟨g, 87, [Value.slice A m c, Value.int .i64 0, Value.int .i64 0, Value.int .i64 0], 4⟩]) (fun w' h => hw1'.self.call' h) ?_
  refine TL.call (ι := Unit) (V := fun _ => .bool (rExp B (⟨0, 0, 0⟩ : RS) magicB 9).1) (R := fun _ => True) (H' := fun _ => [⟨g1, 62, [Value.pointer (some ⟨g, 0, none⟩)], 1⟩, ⟨g3, 25, [Value.int .i64 0, Value.int .i64 0] ++ ((List.replicate 32 (0 : Int)).map (Value.int .u8) ++ ((List.replicate 32 (0 : Int)).map (Value.int .u8) ++ ([Value.slice none 0 0]))), 67⟩, ⟨g2, 25, [Value.int .i64 0, Value.int .i64 0] ++ ((List.replicate 32 (0 : Int)).map (Value.int .u8) ++ ((List.replicate 32 (0 : Int)).map (Value.int .u8) ++ ([Value.slice none 0 0]))), 67⟩, ⟨g, 87, [Value.slice A m c, Value.int .i64 ((rExp B (⟨0, 0, 0⟩ : RS) magicB 9).2.k : Int), Value.int .i64 ((rExp B (⟨0, 0, 0⟩ : RS) magicB 9).2.co), Value.int .i64 ((rExp B (⟨0, 0, 0⟩ : RS) magicB 9).2.po)], 4⟩]) (Wants.none rfl) rfl enters43 rfl rfl (fun w hs => (wexp_s g A m c (⟨0, 0, 0⟩ : RS) 9 (by decide) w (hs.has (⟨g, 87, [Value.slice A m c, Value.int .i64 0, Value.int .i64 0, Value.int .i64 0], 4⟩) (by simp)) (Nat.zero_le _) (by omega) (by omega) B (((((hX.more hg1).more hg2).more hg3).at_ (St.trans7 hw1' hs rfl) (fun b hb hbX => (ne_cons (fun h => hbX g1 (by simp) h.symm) (ne_cons (fun h => hbX g3 (by simp) h.symm) (ne_cons (fun h => hbX g2 (by simp) h.symm) (ne_cons (fun h => hbX g (by simp) h.symm) ne_nil)))))).sub (Y := [g]) (fun z hz => by rw [List.mem_singleton.1 hz]; simp)) hBB magicB (some ⟨g4, 0, none⟩) 4 4 (Src.toX (SrcX.src hM |>.frz hw1' hs rfl hgw (by simp only [List.mem_cons, List.not_mem_nil, or_false]; rintro e (rfl | rfl | rfl | rfl) <;> (intro h; first | exact hnmg1 h.symm | exact hnmg2 h.symm | exact hnmg3 h.symm | exact hnmg h.symm))) (fun b off h x hx => by cases h; rw [List.mem_singleton.1 hx]; exact hnmg)) magic_bytes (Nat.le_refl _) (by omega)).mono fun e w' ⟨he, hw⟩ => ⟨(), he, trivial, St.turn (i := 3) (e := ⟨g, 87, [Value.slice A m c, Value.int .i64 ((rExp B (⟨0, 0, 0⟩ : RS) magicB 9).2.k : Int), Value.int .i64 ((rExp B (⟨0, 0, 0⟩ : RS) magicB 9).2.co), Value.int .i64 ((rExp B (⟨0, 0, 0⟩ : RS) magicB 9).2.po)], 4⟩) hs rfl rfl hw⟩) (fun _ _ => ?_)
  have hrie1 := rExp_ri (D := magicB) (code := 9) (by decide) hri
  generalize he1 : rExp B ⟨0, 0, 0⟩ magicB 9 = e1 at hrie1 ⊢
  refine TL.rebase2 hw1' rfl ?_
  have hke1 : e1.2.k ≤ m := by have := hrie1.1; omega
  iterate 2 refine gx ?_
  refine TC.pr [1, 2, 3] ?_
  iterate 4 refine gx ?_
  refine TL.buildSlice (Wants.none rfl) rfl rfl Try.underlying28 size5 zero5 rfl (by decide) (by decide) (cells := #[.int .u8 1]) (tot := 1) (by kernel_rfl) (cs := [.int .u8 1]) rfl rfl (fun g5 hg5 => ?_)
  refine TL.call (ι := Unit) (V := fun _ => .bool (rExp B e1.2 [1] 10).1) (R := fun _ => True) (H' := fun _ => [⟨g5, 5, [Value.int .u8 1], 1⟩, ⟨g1, 62, [Value.pointer (some ⟨g, 0, none⟩)], 1⟩, ⟨g3, 25, [Value.int .i64 0, Value.int .i64 0] ++ ((List.replicate 32 (0 : Int)).map (Value.int .u8) ++ ((List.replicate 32 (0 : Int)).map (Value.int .u8) ++ ([Value.slice none 0 0]))), 67⟩, ⟨g2, 25, [Value.int .i64 0, Value.int .i64 0] ++ ((List.replicate 32 (0 : Int)).map (Value.int .u8) ++ ((List.replicate 32 (0 : Int)).map (Value.int .u8) ++ ([Value.slice none 0 0]))), 67⟩, ⟨g, 87, [Value.slice A m c, Value.int .i64 ((rExp B e1.2 [1] 10).2.k : Int), Value.int .i64 ((rExp B e1.2 [1] 10).2.co), Value.int .i64 ((rExp B e1.2 [1] 10).2.po)], 4⟩]) (Wants.none rfl) rfl enters43 rfl rfl (fun w hs => (wexp_s g A m c e1.2 10 (by decide) w (hs.has (⟨g, 87, [Value.slice A m c, Value.int .i64 (e1.2.k : Int), Value.int .i64 e1.2.co, Value.int .i64 e1.2.po], 4⟩) (by simp)) (by omega) (by omega) (by omega) B (hX.at_ hs (fun b hb hbX => (ne_cons (by show g5 ≠ b; omega) (ne_cons (by show g1 ≠ b; omega) (ne_cons (by show g3 ≠ b; omega) (ne_cons (by show g2 ≠ b; omega) (ne_cons (fun h => hbX g (by simp) h.symm) ne_nil))))))) hBB [1] (some ⟨g5, 0, none⟩) 1 1 ((src_ent (W := [1]) (hs.has (⟨g5, 5, [Value.int .u8 1], 1⟩) (by simp)) rfl).toX (fun b off h x hx => by cases h; rw [List.mem_singleton.1 hx]; omega)) (by intro z hz; rw [List.mem_singleton.1 hz]; decide) (Nat.le_refl _) (by omega)).mono fun e w' ⟨he, hw⟩ => ⟨(), he, trivial, St.turn (i := 4) (e := ⟨g, 87, [Value.slice A m c, Value.int .i64 ((rExp B e1.2 [1] 10).2.k : Int), Value.int .i64 ((rExp B e1.2 [1] 10).2.co), Value.int .i64 ((rExp B e1.2 [1] 10).2.po)], 4⟩) hs rfl rfl hw⟩) (fun _ _ => ?_)
  have hriz_ := rExp_ri (D := [1]) (code := 10) (by decide) hrie1
  generalize hz_ : rExp B e1.2 [1] 10 = z_ at hriz_ ⊢
  have hkz_ : z_.2.k ≤ m := by have := hriz_.1; omega
  iterate 3 refine gx ?_
  refine TC.heap (H' := [⟨g1, 62, [Value.pointer (some ⟨g, 0, none⟩)], 1⟩, ⟨g3, 25, [Value.int .i64 0, Value.int .i64 0] ++ ((List.replicate 32 (0 : Int)).map (Value.int .u8) ++ ((List.replicate 32 (0 : Int)).map (Value.int .u8) ++ ([Value.slice none 0 0]))), 67⟩, ⟨g2, 25, [Value.int .i64 0, Value.int .i64 0] ++ ((List.replicate 32 (0 : Int)).map (Value.int .u8) ++ ((List.replicate 32 (0 : Int)).map (Value.int .u8) ++ ([Value.slice none 0 0]))), 67⟩, ⟨g, 87, [Value.slice A m c, Value.int .i64 (z_.2.k : Int), Value.int .i64 z_.2.co, Value.int .i64 z_.2.po], 4⟩]) (fun w h => h.erase (i := 0) rfl (by assumption)) ?_
  refine TC.heap (H' := [⟨g1, 62, [Value.pointer (some ⟨g, 0, none⟩)], 1⟩] ++ ([⟨g3, 25, [Value.int .i64 0, Value.int .i64 0] ++ ((List.replicate 32 (0 : Int)).map (Value.int .u8) ++ ((List.replicate 32 (0 : Int)).map (Value.int .u8) ++ ([Value.slice none 0 0]))), 67⟩, ⟨g2, 25, [Value.int .i64 0, Value.int .i64 0] ++ ((List.replicate 32 (0 : Int)).map (Value.int .u8) ++ ((List.replicate 32 (0 : Int)).map (Value.int .u8) ++ ([Value.slice none 0 0]))), 67⟩, ⟨g, 87, [Value.slice A m c, Value.int .i64 (z_.2.k : Int), Value.int .i64 z_.2.co, Value.int .i64 z_.2.po], 4⟩])) (fun w h => h) ?_
  refine TC.mixB (HB := [Ent.mk g1 62 ([Value.pointer (some ⟨g, 0, none⟩)]) 1]) (H := [Ent.mk g3 25 ([Value.int .i64 0, Value.int .i64 0] ++ ((List.replicate 32 (0 : Int)).map (Value.int .u8) ++ ((List.replicate 32 (0 : Int)).map (Value.int .u8) ++ ([Value.slice none 0 0])))) 67, Ent.mk g2 25 ([Value.int .i64 0, Value.int .i64 0] ++ ((List.replicate 32 (0 : Int)).map (Value.int .u8) ++ ((List.replicate 32 (0 : Int)).map (Value.int .u8) ++ ([Value.slice none 0 0])))) 67, Ent.mk g 87 ([Value.slice A m c, Value.int .i64 (z_.2.k : Int), Value.int .i64 z_.2.co, Value.int .i64 z_.2.po]) 4]) (by kernel_rfl) [0, 0, 3, 0, 0, 3, 0, 8, 0, 8] [0, 1, 3, 4, 2, 6, 5, 7, 8, 9] (by kernel_rfl) ?_
  refine TP.free (Wants.none rfl) rfl (fun _ => Gets.fieldAddr rfl Try.underlying62 rfl size59 rfl (off' := 0) (by first | rfl | omega)) ?_
  refine TP.stay (Wants.none rfl) rfl (fun H' => Gets.load1 rfl agg59 rfl (At.ent (i := 0) (ent := ⟨g1, 62, [Value.pointer (some ⟨g, 0, none⟩)], 1⟩) (off := 0) rfl rfl (by exact rfl))) ?_
  refine TP.free (Wants.none rfl) rfl (fun _ => Gets.fieldAddr rfl Try.underlying62 rfl size59 rfl (off' := 0) (by first | rfl | omega)) ?_
  refine TP.stay (Wants.none rfl) rfl (fun H' => Gets.load1 rfl agg59 rfl (At.ent (i := 0) (ent := ⟨g1, 62, [Value.pointer (some ⟨g, 0, none⟩)], 1⟩) (off := 0) rfl rfl (by exact rfl))) ?_
  refine TP.call (ι := Unit) (V := fun _ => .int .i64 ((rLen B z_.2).1)) (R := fun _ => True) (H' := fun _ => [⟨g3, 25, [Value.int .i64 0, Value.int .i64 0] ++ ((List.replicate 32 (0 : Int)).map (Value.int .u8) ++ ((List.replicate 32 (0 : Int)).map (Value.int .u8) ++ ([Value.slice none 0 0]))), 67⟩, ⟨g2, 25, [Value.int .i64 0, Value.int .i64 0] ++ ((List.replicate 32 (0 : Int)).map (Value.int .u8) ++ ((List.replicate 32 (0 : Int)).map (Value.int .u8) ++ ([Value.slice none 0 0]))), 67⟩, ⟨g, 87, [Value.slice A m c, Value.int .i64 ((rLen B z_.2).2.k : Int), Value.int .i64 ((rLen B z_.2).2.co), Value.int .i64 ((rLen B z_.2).2.po)], 4⟩]) (Wants.none rfl) rfl enters44 rfl rfl (fun w hs => (wlen_s g A m c z_.2 w (hs.has (⟨g, 87, [Value.slice A m c, Value.int .i64 (z_.2.k : Int), Value.int .i64 z_.2.co, Value.int .i64 z_.2.po], 4⟩) (by simp)) (by omega) (by omega) (by omega) B (hX.at_ hs (fun b hb hbX => (ne_app (ne_cons (by show g1 ≠ b; omega) ne_nil) (ne_cons (by show g3 ≠ b; omega) (ne_cons (by show g2 ≠ b; omega) (ne_cons (fun h => hbX g (by simp) h.symm) ne_nil)))))) hBB).mono fun e w' ⟨he, hw⟩ => ⟨(), he, trivial, St.turn (i := 3) (e := ⟨g, 87, [Value.slice A m c, Value.int .i64 ((rLen B z_.2).2.k : Int), Value.int .i64 ((rLen B z_.2).2.co), Value.int .i64 ((rLen B z_.2).2.po)], 4⟩) hs rfl rfl hw⟩) (fun _ _ => ?_)
  have hvo_ := rLen_val hBB z_.2
  have hrio_ := rLen_ri hriz_
  generalize ho_ : rLen B z_.2 = o_ at hvo_ hrio_ ⊢
  have hko_ : o_.2.k ≤ m := by have := hrio_.1; omega
  refine TP.free (Wants.none rfl) rfl (fun _ => Gets.fieldAddr rfl Try.underlying25 rfl size3 rfl (off' := 0) (by first | rfl | omega)) ?_
  refine TP.call (ι := Unit) (V := fun _ => .int .i64 ((rLen B o_.2).1)) (R := fun _ => True) (H' := fun _ => [⟨g3, 25, [Value.int .i64 0, Value.int .i64 0] ++ ((List.replicate 32 (0 : Int)).map (Value.int .u8) ++ ((List.replicate 32 (0 : Int)).map (Value.int .u8) ++ ([Value.slice none 0 0]))), 67⟩, ⟨g2, 25, [Value.int .i64 0, Value.int .i64 0] ++ ((List.replicate 32 (0 : Int)).map (Value.int .u8) ++ ((List.replicate 32 (0 : Int)).map (Value.int .u8) ++ ([Value.slice none 0 0]))), 67⟩, ⟨g, 87, [Value.slice A m c, Value.int .i64 ((rLen B o_.2).2.k : Int), Value.int .i64 ((rLen B o_.2).2.co), Value.int .i64 ((rLen B o_.2).2.po)], 4⟩]) (Wants.none rfl) rfl enters44 rfl rfl (fun w hs => (wlen_s g A m c o_.2 w (hs.has (⟨g, 87, [Value.slice A m c, Value.int .i64 (o_.2.k : Int), Value.int .i64 o_.2.co, Value.int .i64 o_.2.po], 4⟩) (by simp)) (by omega) (by omega) (by omega) B (hX.at_ hs (fun b hb hbX => (ne_app (ne_cons (by show g1 ≠ b; omega) ne_nil) (ne_cons (by show g3 ≠ b; omega) (ne_cons (by show g2 ≠ b; omega) (ne_cons (fun h => hbX g (by simp) h.symm) ne_nil)))))) hBB).mono fun e w' ⟨he, hw⟩ => ⟨(), he, trivial, St.turn (i := 3) (e := ⟨g, 87, [Value.slice A m c, Value.int .i64 ((rLen B o_.2).2.k : Int), Value.int .i64 ((rLen B o_.2).2.co), Value.int .i64 ((rLen B o_.2).2.po)], 4⟩) hs rfl rfl hw⟩) (fun _ _ => ?_)
  have hvn_ := rLen_val hBB o_.2
  have hrin_ := rLen_ri hrio_
  generalize hn_ : rLen B o_.2 = n_ at hvn_ hrin_ ⊢
  have hkn_ : n_.2.k ≤ m := by have := hrin_.1; omega
  refine TP.store1 (Wants.none rfl) rfl rfl size3 rfl rfl rfl (i := 1) rfl rfl (by simp [] <;> omega) (cs' := [Value.int .i64 o_.1, Value.int .i64 0] ++ ((List.replicate 32 (0 : Int)).map (Value.int .u8) ++ ((List.replicate 32 (0 : Int)).map (Value.int .u8) ++ ([Value.slice none 0 0])))) (set_left (by simp []) (rfl)) (H' := [⟨g3, 25, [Value.int .i64 o_.1, Value.int .i64 0] ++ ((List.replicate 32 (0 : Int)).map (Value.int .u8) ++ ((List.replicate 32 (0 : Int)).map (Value.int .u8) ++ ([Value.slice none 0 0]))), 67⟩, ⟨g2, 25, [Value.int .i64 0, Value.int .i64 0] ++ ((List.replicate 32 (0 : Int)).map (Value.int .u8) ++ ((List.replicate 32 (0 : Int)).map (Value.int .u8) ++ ([Value.slice none 0 0]))), 67⟩, ⟨g, 87, [Value.slice A m c, Value.int .i64 (n_.2.k : Int), Value.int .i64 n_.2.co, Value.int .i64 n_.2.po], 4⟩]) rfl ?_
  refine TP.free (Wants.none rfl) rfl (fun _ => Gets.fieldAddr rfl Try.underlying25 rfl size3 rfl (off' := 1) (by first | rfl | omega)) ?_
  refine TP.store1 (Wants.none rfl) rfl rfl size3 rfl rfl rfl (i := 1) rfl rfl (by simp [] <;> omega) (cs' := [Value.int .i64 o_.1, Value.int .i64 n_.1] ++ ((List.replicate 32 (0 : Int)).map (Value.int .u8) ++ ((List.replicate 32 (0 : Int)).map (Value.int .u8) ++ ([Value.slice none 0 0])))) (set_left (by simp []) (rfl)) (H' := [⟨g3, 25, [Value.int .i64 o_.1, Value.int .i64 n_.1] ++ ((List.replicate 32 (0 : Int)).map (Value.int .u8) ++ ((List.replicate 32 (0 : Int)).map (Value.int .u8) ++ ([Value.slice none 0 0]))), 67⟩, ⟨g2, 25, [Value.int .i64 0, Value.int .i64 0] ++ ((List.replicate 32 (0 : Int)).map (Value.int .u8) ++ ((List.replicate 32 (0 : Int)).map (Value.int .u8) ++ ([Value.slice none 0 0]))), 67⟩, ⟨g, 87, [Value.slice A m c, Value.int .i64 (n_.2.k : Int), Value.int .i64 n_.2.co, Value.int .i64 n_.2.po], 4⟩]) rfl ?_
  refine TP.nil ?_
  refine TE.heap (H' := [⟨g1, 62, [Value.pointer (some ⟨g, 0, none⟩)], 1⟩, ⟨g3, 25, [Value.int .i64 o_.1, Value.int .i64 n_.1] ++ ((List.replicate 32 (0 : Int)).map (Value.int .u8) ++ ((List.replicate 32 (0 : Int)).map (Value.int .u8) ++ ([Value.slice none 0 0]))), 67⟩, ⟨g2, 25, [Value.int .i64 0, Value.int .i64 0] ++ ((List.replicate 32 (0 : Int)).map (Value.int .u8) ++ ((List.replicate 32 (0 : Int)).map (Value.int .u8) ++ ([Value.slice none 0 0]))), 67⟩, ⟨g, 87, [Value.slice A m c, Value.int .i64 (n_.2.k : Int), Value.int .i64 n_.2.co, Value.int .i64 n_.2.po], 4⟩]) (fun w h => h) ?_
  refine gx ?_
  refine TC.pr [1, 2, 3] ?_
  refine gx ?_
  refine TC.heap (H' := [⟨g1, 62, [Value.pointer (some ⟨g, 0, none⟩)], 1⟩] ++ ([⟨g3, 25, [Value.int .i64 o_.1, Value.int .i64 n_.1] ++ ((List.replicate 32 (0 : Int)).map (Value.int .u8) ++ ((List.replicate 32 (0 : Int)).map (Value.int .u8) ++ ([Value.slice none 0 0]))), 67⟩, ⟨g2, 25, [Value.int .i64 0, Value.int .i64 0] ++ ((List.replicate 32 (0 : Int)).map (Value.int .u8) ++ ((List.replicate 32 (0 : Int)).map (Value.int .u8) ++ ([Value.slice none 0 0]))), 67⟩, ⟨g, 87, [Value.slice A m c, Value.int .i64 (n_.2.k : Int), Value.int .i64 n_.2.co, Value.int .i64 n_.2.po], 4⟩])) (fun w h => h) ?_
  refine TC.mixB (HB := [Ent.mk g1 62 ([Value.pointer (some ⟨g, 0, none⟩)]) 1]) (H := [Ent.mk g3 25 ([Value.int .i64 o_.1, Value.int .i64 n_.1] ++ ((List.replicate 32 (0 : Int)).map (Value.int .u8) ++ ((List.replicate 32 (0 : Int)).map (Value.int .u8) ++ ([Value.slice none 0 0])))) 67, Ent.mk g2 25 ([Value.int .i64 0, Value.int .i64 0] ++ ((List.replicate 32 (0 : Int)).map (Value.int .u8) ++ ((List.replicate 32 (0 : Int)).map (Value.int .u8) ++ ([Value.slice none 0 0])))) 67, Ent.mk g 87 ([Value.slice A m c, Value.int .i64 (n_.2.k : Int), Value.int .i64 n_.2.co, Value.int .i64 n_.2.po]) 4]) (by kernel_rfl) [0, 3, 0, 3, 0, 8, 0, 8] [0, 2, 1, 4, 3, 5, 6, 7] (by kernel_rfl) ?_
  refine TP.stay (Wants.none rfl) rfl (fun H' => Gets.loadN rfl agg62 size62 rfl (vs := [Value.pointer (some ⟨g, 0, none⟩)]) (by simp []) (Row.all (i := 0) (ent := ⟨g1, 62, [Value.pointer (some ⟨g, 0, none⟩)], 1⟩) rfl rfl rfl)) ?_
  refine TP.stay (Wants.none rfl) rfl (fun H' => Gets.loadN rfl agg62 size62 rfl (vs := [Value.pointer (some ⟨g, 0, none⟩)]) (by simp []) (Row.all (i := 0) (ent := ⟨g1, 62, [Value.pointer (some ⟨g, 0, none⟩)], 1⟩) rfl rfl rfl)) ?_
  refine TP.call (ι := List Int) (V := fun Xx => .agg (Xx.map (Value.int .u8)).toArray) (R := fun Xx => Xx.length = 32 ∧ ((rBytes B n_.2 32).1.length = 32 → Xx = (rBytes B n_.2 32).1)) (H' := fun Xx => [⟨g3, 25, [Value.int .i64 o_.1, Value.int .i64 n_.1] ++ ((List.replicate 32 (0 : Int)).map (Value.int .u8) ++ ((List.replicate 32 (0 : Int)).map (Value.int .u8) ++ ([Value.slice none 0 0]))), 67⟩, ⟨g2, 25, [Value.int .i64 0, Value.int .i64 0] ++ ((List.replicate 32 (0 : Int)).map (Value.int .u8) ++ ((List.replicate 32 (0 : Int)).map (Value.int .u8) ++ ([Value.slice none 0 0]))), 67⟩, ⟨g, 87, [Value.slice A m c, Value.int .i64 ((rBytes B n_.2 32).2.k : Int), Value.int .i64 ((rBytes B n_.2 32).2.co), Value.int .i64 ((rBytes B n_.2 32).2.po)], 4⟩]) (Wants.none rfl) rfl enters45 rfl rfl (fun w hs => (hash_s g A m c n_.2 w (hs.has (⟨g, 87, [Value.slice A m c, Value.int .i64 (n_.2.k : Int), Value.int .i64 n_.2.co, Value.int .i64 n_.2.po], 4⟩) (by simp)) (by omega) (by omega) (by omega) B (hX.at_ hs (fun b hb hbX => (ne_app (ne_cons (by show g1 ≠ b; omega) ne_nil) (ne_cons (by show g3 ≠ b; omega) (ne_cons (by show g2 ≠ b; omega) (ne_cons (fun h => hbX g (by simp) h.symm) ne_nil)))))) hBB hrin_ hm).mono fun e w' ⟨X, he, h1, h2, hw⟩ => ⟨X, he, ⟨h1, h2⟩, St.turn (i := 3) (e := ⟨g, 87, [Value.slice A m c, Value.int .i64 ((rBytes B n_.2 32).2.k : Int), Value.int .i64 ((rBytes B n_.2 32).2.co), Value.int .i64 ((rBytes B n_.2 32).2.po)], 4⟩) hs rfl rfl hw⟩) (fun Xx ⟨hXx32, hXxe⟩ => ?_)
  have hrix_ := rBytes_ri (n := 32) hrin_
  generalize hx_ : rBytes B n_.2 32 = x_ at hrix_ hXxe ⊢
  have hkx_ : x_.2.k ≤ m := by have := hrix_.1; omega
  refine TP.free (Wants.none rfl) rfl (fun _ => Gets.fieldAddr rfl Try.underlying25 rfl size22 rfl (off' := 2) (by first | rfl | omega)) ?_
  refine TP.call (ι := List Int) (V := fun Xy => .agg (Xy.map (Value.int .u8)).toArray) (R := fun Xy => Xy.length = 32 ∧ ((rBytes B x_.2 32).1.length = 32 → Xy = (rBytes B x_.2 32).1)) (H' := fun Xy => [⟨g3, 25, [Value.int .i64 o_.1, Value.int .i64 n_.1] ++ ((List.replicate 32 (0 : Int)).map (Value.int .u8) ++ ((List.replicate 32 (0 : Int)).map (Value.int .u8) ++ ([Value.slice none 0 0]))), 67⟩, ⟨g2, 25, [Value.int .i64 0, Value.int .i64 0] ++ ((List.replicate 32 (0 : Int)).map (Value.int .u8) ++ ((List.replicate 32 (0 : Int)).map (Value.int .u8) ++ ([Value.slice none 0 0]))), 67⟩, ⟨g, 87, [Value.slice A m c, Value.int .i64 ((rBytes B x_.2 32).2.k : Int), Value.int .i64 ((rBytes B x_.2 32).2.co), Value.int .i64 ((rBytes B x_.2 32).2.po)], 4⟩]) (Wants.none rfl) rfl enters45 rfl rfl (fun w hs => (hash_s g A m c x_.2 w (hs.has (⟨g, 87, [Value.slice A m c, Value.int .i64 (x_.2.k : Int), Value.int .i64 x_.2.co, Value.int .i64 x_.2.po], 4⟩) (by simp)) (by omega) (by omega) (by omega) B (hX.at_ hs (fun b hb hbX => (ne_app (ne_cons (by show g1 ≠ b; omega) ne_nil) (ne_cons (by show g3 ≠ b; omega) (ne_cons (by show g2 ≠ b; omega) (ne_cons (fun h => hbX g (by simp) h.symm) ne_nil)))))) hBB hrix_ hm).mono fun e w' ⟨X, he, h1, h2, hw⟩ => ⟨X, he, ⟨h1, h2⟩, St.turn (i := 3) (e := ⟨g, 87, [Value.slice A m c, Value.int .i64 ((rBytes B x_.2 32).2.k : Int), Value.int .i64 ((rBytes B x_.2 32).2.co), Value.int .i64 ((rBytes B x_.2 32).2.po)], 4⟩) hs rfl rfl hw⟩) (fun Xy ⟨hXy32, hXye⟩ => ?_)
  have hriy_ := rBytes_ri (n := 32) hrix_
  generalize hy_ : rBytes B x_.2 32 = y_ at hriy_ hXye ⊢
  have hky_ : y_.2.k ≤ m := by have := hriy_.1; omega
  refine TP.storeN (Wants.none rfl) rfl rfl size22 rfl (vs := Xx.map (Value.int .u8)) rfl (by simp [hXx32]) ints_one (i := 1) (ent := ⟨g3, 25, [Value.int .i64 o_.1, Value.int .i64 n_.1] ++ ((List.replicate 32 (0 : Int)).map (Value.int .u8) ++ ((List.replicate 32 (0 : Int)).map (Value.int .u8) ++ ([Value.slice none 0 0]))), 67⟩) rfl rfl (by simp [hXx32]) (cs' := [Value.int .i64 o_.1, Value.int .i64 n_.1] ++ (Xx.map (Value.int .u8) ++ ((List.replicate 32 (0 : Int)).map (Value.int .u8) ++ ([Value.slice none 0 0])))) (seg_store (by simp [hXx32]) (by simp [hXx32])) (H' := [⟨g3, 25, [Value.int .i64 o_.1, Value.int .i64 n_.1] ++ (Xx.map (Value.int .u8) ++ ((List.replicate 32 (0 : Int)).map (Value.int .u8) ++ ([Value.slice none 0 0]))), 67⟩, ⟨g2, 25, [Value.int .i64 0, Value.int .i64 0] ++ ((List.replicate 32 (0 : Int)).map (Value.int .u8) ++ ((List.replicate 32 (0 : Int)).map (Value.int .u8) ++ ([Value.slice none 0 0]))), 67⟩, ⟨g, 87, [Value.slice A m c, Value.int .i64 (y_.2.k : Int), Value.int .i64 y_.2.co, Value.int .i64 y_.2.po], 4⟩]) rfl ?_
  refine TP.free (Wants.none rfl) rfl (fun _ => Gets.fieldAddr rfl Try.underlying25 rfl size22 rfl (off' := 34) (by first | rfl | omega)) ?_
  refine TP.storeN (Wants.none rfl) rfl rfl size22 rfl (vs := Xy.map (Value.int .u8)) rfl (by simp [hXy32]) ints_one (i := 1) (ent := ⟨g3, 25, [Value.int .i64 o_.1, Value.int .i64 n_.1] ++ (Xx.map (Value.int .u8) ++ ((List.replicate 32 (0 : Int)).map (Value.int .u8) ++ ([Value.slice none 0 0]))), 67⟩) rfl rfl (by simp [hXx32, hXy32]) (cs' := [Value.int .i64 o_.1, Value.int .i64 n_.1] ++ (Xx.map (Value.int .u8) ++ (Xy.map (Value.int .u8) ++ ([Value.slice none 0 0])))) (seg_store2 (by simp [hXx32, hXy32]) (by simp [hXx32, hXy32])) (H' := [⟨g3, 25, [Value.int .i64 o_.1, Value.int .i64 n_.1] ++ (Xx.map (Value.int .u8) ++ (Xy.map (Value.int .u8) ++ ([Value.slice none 0 0]))), 67⟩, ⟨g2, 25, [Value.int .i64 0, Value.int .i64 0] ++ ((List.replicate 32 (0 : Int)).map (Value.int .u8) ++ ((List.replicate 32 (0 : Int)).map (Value.int .u8) ++ ([Value.slice none 0 0]))), 67⟩, ⟨g, 87, [Value.slice A m c, Value.int .i64 (y_.2.k : Int), Value.int .i64 y_.2.co, Value.int .i64 y_.2.po], 4⟩]) rfl ?_
  refine TP.nil ?_
  refine TE.heap (H' := [⟨g1, 62, [Value.pointer (some ⟨g, 0, none⟩)], 1⟩, ⟨g3, 25, [Value.int .i64 o_.1, Value.int .i64 n_.1] ++ (Xx.map (Value.int .u8) ++ (Xy.map (Value.int .u8) ++ ([Value.slice none 0 0]))), 67⟩, ⟨g2, 25, [Value.int .i64 0, Value.int .i64 0] ++ ((List.replicate 32 (0 : Int)).map (Value.int .u8) ++ ((List.replicate 32 (0 : Int)).map (Value.int .u8) ++ ([Value.slice none 0 0]))), 67⟩, ⟨g, 87, [Value.slice A m c, Value.int .i64 (y_.2.k : Int), Value.int .i64 y_.2.co, Value.int .i64 y_.2.po], 4⟩]) (fun w h => h) ?_
  refine gx ?_
  refine TC.pr [1, 2, 3] ?_
  refine gx ?_
  refine TC.heap (H' := [⟨g1, 62, [Value.pointer (some ⟨g, 0, none⟩)], 1⟩] ++ ([⟨g3, 25, [Value.int .i64 o_.1, Value.int .i64 n_.1] ++ (Xx.map (Value.int .u8) ++ (Xy.map (Value.int .u8) ++ ([Value.slice none 0 0]))), 67⟩, ⟨g2, 25, [Value.int .i64 0, Value.int .i64 0] ++ ((List.replicate 32 (0 : Int)).map (Value.int .u8) ++ ((List.replicate 32 (0 : Int)).map (Value.int .u8) ++ ([Value.slice none 0 0]))), 67⟩, ⟨g, 87, [Value.slice A m c, Value.int .i64 (y_.2.k : Int), Value.int .i64 y_.2.co, Value.int .i64 y_.2.po], 4⟩])) (fun w h => h) ?_
  refine TC.mixB (HB := [Ent.mk g1 62 ([Value.pointer (some ⟨g, 0, none⟩)]) 1]) (H := [Ent.mk g3 25 ([Value.int .i64 o_.1, Value.int .i64 n_.1] ++ (Xx.map (Value.int .u8) ++ (Xy.map (Value.int .u8) ++ ([Value.slice none 0 0])))) 67, Ent.mk g2 25 ([Value.int .i64 0, Value.int .i64 0] ++ ((List.replicate 32 (0 : Int)).map (Value.int .u8) ++ ((List.replicate 32 (0 : Int)).map (Value.int .u8) ++ ([Value.slice none 0 0])))) 67, Ent.mk g 87 ([Value.slice A m c, Value.int .i64 (y_.2.k : Int), Value.int .i64 y_.2.co, Value.int .i64 y_.2.po]) 4]) (by kernel_rfl) [0, 0, 0, 3, 0, 3, 0, 8] [0, 1, 2, 3, 4, 5, 6, 7] (by kernel_rfl) ?_
  refine TP.stay (Wants.none rfl) rfl (fun H' => Gets.loadN rfl agg62 size62 rfl (vs := [Value.pointer (some ⟨g, 0, none⟩)]) (by simp []) (Row.all (i := 0) (ent := ⟨g1, 62, [Value.pointer (some ⟨g, 0, none⟩)], 1⟩) rfl rfl rfl)) ?_
  refine TP.free (Wants.none rfl) rfl (fun _ => Gets.fieldAddr rfl Try.underlying62 rfl size59 rfl (off' := 0) (by first | rfl | omega)) ?_
  refine TP.stay (Wants.none rfl) rfl (fun H' => Gets.load1 rfl agg59 rfl (At.ent (i := 0) (ent := ⟨g1, 62, [Value.pointer (some ⟨g, 0, none⟩)], 1⟩) (off := 0) rfl rfl (by exact rfl))) ?_
  refine TP.call (ι := Unit) (V := fun _ => .int .u64 ((rUint B y_.2 4).1)) (R := fun _ => True) (H' := fun _ => [⟨g3, 25, [Value.int .i64 o_.1, Value.int .i64 n_.1] ++ (Xx.map (Value.int .u8) ++ (Xy.map (Value.int .u8) ++ ([Value.slice none 0 0]))), 67⟩, ⟨g2, 25, [Value.int .i64 0, Value.int .i64 0] ++ ((List.replicate 32 (0 : Int)).map (Value.int .u8) ++ ((List.replicate 32 (0 : Int)).map (Value.int .u8) ++ ([Value.slice none 0 0]))), 67⟩, ⟨g, 87, [Value.slice A m c, Value.int .i64 ((rUint B y_.2 4).2.k : Int), Value.int .i64 ((rUint B y_.2 4).2.co), Value.int .i64 ((rUint B y_.2 4).2.po)], 4⟩]) (Wants.none rfl) rfl enters47 rfl rfl (fun w hs => (wuint_s g A m c y_.2 4 (by omega) w (hs.has (⟨g, 87, [Value.slice A m c, Value.int .i64 (y_.2.k : Int), Value.int .i64 y_.2.co, Value.int .i64 y_.2.po], 4⟩) (by simp)) (by omega) (by omega) (by omega) B (hX.at_ hs (fun b hb hbX => (ne_app (ne_cons (by show g1 ≠ b; omega) ne_nil) (ne_cons (by show g3 ≠ b; omega) (ne_cons (by show g2 ≠ b; omega) (ne_cons (fun h => hbX g (by simp) h.symm) ne_nil)))))) hBB).mono fun e w' ⟨he, hw⟩ => ⟨(), he, trivial, St.turn (i := 3) (e := ⟨g, 87, [Value.slice A m c, Value.int .i64 ((rUint B y_.2 4).2.k : Int), Value.int .i64 ((rUint B y_.2 4).2.co), Value.int .i64 ((rUint B y_.2 4).2.po)], 4⟩) hs rfl rfl hw⟩) (fun _ _ => ?_)
  have hvc_ := rUint_val4 hBB y_.2
  have hric_ := rUint_ri (n := 4) hriy_
  generalize hc_ : rUint B y_.2 4 = c_ at hvc_ hric_ ⊢
  have hkc_ : c_.2.k ≤ m := by have := hric_.1; omega
  refine TP.free (Wants.none rfl) rfl (fun _ => Gets.conv rfl Try.underlying51 Try.underlying3 rfl (r := c_.1) (w64 rfl (by omega))) ?_
  refine TP.call (ι := (Option Addr × Nat × Nat) × List CV × List Ent) (V := fun y => .slice y.1.1 y.1.2.1 y.1.2.2) (R := fun y => (y.1.2.1 ≤ y.1.2.2 ∧ y.1.2.2 ≤ 9223372036854775807) ∧ OwnD w.heap.size y.1.1 y.1.2.1 y.2.1 y.2.2 ∧ ((rIter B c_.2 c_.1.toNat).2.co = 0 → y.2.1.map cmC = (rIter B c_.2 c_.1.toNat).1 ∧ y.2.1.length = y.1.2.1)) (H' := fun y => [⟨g3, 25, [Value.int .i64 o_.1, Value.int .i64 n_.1] ++ (Xx.map (Value.int .u8) ++ (Xy.map (Value.int .u8) ++ ([Value.slice none 0 0]))), 67⟩, ⟨g2, 25, [Value.int .i64 0, Value.int .i64 0] ++ ((List.replicate 32 (0 : Int)).map (Value.int .u8) ++ ((List.replicate 32 (0 : Int)).map (Value.int .u8) ++ ([Value.slice none 0 0]))), 67⟩, ⟨g, 87, [Value.slice A m c, Value.int .i64 ((rIter B c_.2 c_.1.toNat).2.k : Int), Value.int .i64 ((rIter B c_.2 c_.1.toNat).2.co), Value.int .i64 ((rIter B c_.2 c_.1.toNat).2.po)], 4⟩] ++ y.2.2) (Wants.none rfl) rfl enters46 rfl rfl (fun w hs => (commands_s g A m c c_.2 c_.1 (by omega) w (hs.has (⟨g, 87, [Value.slice A m c, Value.int .i64 (c_.2.k : Int), Value.int .i64 c_.2.co, Value.int .i64 c_.2.po], 4⟩) (by simp)) (by omega) (by omega) (by omega) B (hX.at_ hs (fun b hb hbX => (ne_app (ne_cons (by show g1 ≠ b; omega) ne_nil) (ne_cons (by show g3 ≠ b; omega) (ne_cons (by show g2 ≠ b; omega) (ne_cons (fun h => hbX g (by simp) h.symm) ne_nil)))))) hBB hric_ hm).mono fun e w' ⟨A1, m1, c1, Es, He, he, hc, ho, hE, hw⟩ => ⟨((A1, m1, c1), Es, He), he, ⟨hc, ho.mono hs.size, hE⟩, (St.turnE (i := 3) (e := ⟨g, 87, [Value.slice A m c, Value.int .i64 ((rIter B c_.2 c_.1.toNat).2.k : Int), Value.int .i64 ((rIter B c_.2 c_.1.toNat).2.co), Value.int .i64 ((rIter B c_.2 c_.1.toNat).2.po)], 4⟩) hs rfl rfl hw ho.1)⟩) (fun y hR => ?_)
  obtain ⟨⟨Al, ml, cl⟩, El, Hl⟩ := y
  dsimp only at hR ⊢
  obtain ⟨hcl, hol, hEl⟩ := hR
  have hril_ := rIter_ri hric_ c_.1.toNat
  generalize hl_ : rIter B c_.2 c_.1.toNat = l_ at hEl hril_ ⊢
  have hkl_ : l_.2.k ≤ m := by have := hril_.1; omega
  have hFl : Fresh w Hl := hol.1
  refine TP.free (Wants.none rfl) rfl (fun _ => Gets.fieldAddr rfl Try.underlying25 rfl size23 rfl (off' := 66) (by first | rfl | omega)) ?_
  refine TP.store1 (Wants.none rfl) rfl rfl size23 rfl rfl rfl (i := 1) rfl rfl (by simp [hXx32, hXy32] <;> omega) (cs' := [Value.int .i64 o_.1, Value.int .i64 n_.1] ++ (Xx.map (Value.int .u8) ++ (Xy.map (Value.int .u8) ++ ([Value.slice Al ml cl])))) (set_right (a := 2) (i := 64) (rfl) (set_right (a := 32) (i := 32) (ints_len hXx32) (set_right (a := 32) (i := 0) (ints_len hXy32) (rfl)))) (H' := [⟨g3, 25, [Value.int .i64 o_.1, Value.int .i64 n_.1] ++ (Xx.map (Value.int .u8) ++ (Xy.map (Value.int .u8) ++ ([Value.slice Al ml cl]))), 67⟩, ⟨g2, 25, [Value.int .i64 0, Value.int .i64 0] ++ ((List.replicate 32 (0 : Int)).map (Value.int .u8) ++ ((List.replicate 32 (0 : Int)).map (Value.int .u8) ++ ([Value.slice none 0 0]))), 67⟩, ⟨g, 87, [Value.slice A m c, Value.int .i64 (l_.2.k : Int), Value.int .i64 l_.2.co, Value.int .i64 l_.2.po], 4⟩] ++ Hl) rfl ?_
  refine TP.nil ?_
  refine TE.heap (H' := [⟨g1, 62, [Value.pointer (some ⟨g, 0, none⟩)], 1⟩, ⟨g3, 25, [Value.int .i64 o_.1, Value.int .i64 n_.1] ++ (Xx.map (Value.int .u8) ++ (Xy.map (Value.int .u8) ++ ([Value.slice Al ml cl]))), 67⟩, ⟨g2, 25, [Value.int .i64 0, Value.int .i64 0] ++ ((List.replicate 32 (0 : Int)).map (Value.int .u8) ++ ((List.replicate 32 (0 : Int)).map (Value.int .u8) ++ ([Value.slice none 0 0]))), 67⟩, ⟨g, 87, [Value.slice A m c, Value.int .i64 (l_.2.k : Int), Value.int .i64 l_.2.co, Value.int .i64 l_.2.po], 4⟩] ++ Hl) (fun w h => h) ?_
  refine gx ?_
  refine TC.pr [1, 2, 3] ?_
  iterate 5 refine gx ?_
  refine TL.call0 (Wants.none rfl) rfl enters48 rfl rfl (v := .int .i64 ((m : Int) - (l_.2.k : Int))) (fun w hs => rest_c g A m c l_.2.k l_.2.co l_.2.po w (hs.has (⟨g, 87, [Value.slice A m c, Value.int .i64 (l_.2.k : Int), Value.int .i64 l_.2.co, Value.int .i64 l_.2.po], 4⟩) (by simp)) (by omega) (by omega) (by omega)) ?_
  iterate 3 refine gx ?_
  refine TC.split rfl (fun h0 => ?_) (fun h0 => ?_)
  · refine TC.heap (H' := [⟨g1, 62, [Value.pointer (some ⟨g, 0, none⟩)], 1⟩] ++ ([⟨g3, 25, [Value.int .i64 o_.1, Value.int .i64 n_.1] ++ (Xx.map (Value.int .u8) ++ (Xy.map (Value.int .u8) ++ ([Value.slice Al ml cl]))), 67⟩, ⟨g2, 25, [Value.int .i64 0, Value.int .i64 0] ++ ((List.replicate 32 (0 : Int)).map (Value.int .u8) ++ ((List.replicate 32 (0 : Int)).map (Value.int .u8) ++ ([Value.slice none 0 0]))), 67⟩, ⟨g, 87, [Value.slice A m c, Value.int .i64 (l_.2.k : Int), Value.int .i64 l_.2.co, Value.int .i64 l_.2.po], 4⟩] ++ Hl)) (fun w h => h) ?_
    refine TC.mixB (HB := [Ent.mk g1 62 ([Value.pointer (some ⟨g, 0, none⟩)]) 1]) (H := [Ent.mk g3 25 ([Value.int .i64 o_.1, Value.int .i64 n_.1] ++ (Xx.map (Value.int .u8) ++ (Xy.map (Value.int .u8) ++ ([Value.slice Al ml cl])))) 67, Ent.mk g2 25 ([Value.int .i64 0, Value.int .i64 0] ++ ((List.replicate 32 (0 : Int)).map (Value.int .u8) ++ ((List.replicate 32 (0 : Int)).map (Value.int .u8) ++ ([Value.slice none 0 0])))) 67, Ent.mk g 87 ([Value.slice A m c, Value.int .i64 (l_.2.k : Int), Value.int .i64 l_.2.co, Value.int .i64 l_.2.po]) 4] ++ Hl) (by kernel_rfl) [0, 0, 0, 0, 3, 3] [0, 1, 2, 3, 4, 5] (by kernel_rfl) ?_
    refine TP.free (Wants.none rfl) rfl (fun _ => Gets.fieldAddr rfl Try.underlying62 rfl size59 rfl (off' := 0) (by first | rfl | omega)) ?_
    refine TP.stay (Wants.none rfl) rfl (fun H' => Gets.load1 rfl agg59 rfl (At.ent (i := 0) (ent := ⟨g1, 62, [Value.pointer (some ⟨g, 0, none⟩)], 1⟩) (off := 0) rfl rfl (by exact rfl))) ?_
    refine TP.free (Wants.none rfl) rfl (fun _ => Gets.fieldAddr rfl Try.underlying62 rfl size59 rfl (off' := 0) (by first | rfl | omega)) ?_
    refine TP.stay (Wants.none rfl) rfl (fun H' => Gets.load1 rfl agg59 rfl (At.ent (i := 0) (ent := ⟨g1, 62, [Value.pointer (some ⟨g, 0, none⟩)], 1⟩) (off := 0) rfl rfl (by exact rfl))) ?_
    refine TP.call0 (Wants.none rfl) rfl enters50 rfl rfl (v := .int .i64 (l_.2.k : Int)) (fun w hs => at_c g A m c l_.2.k l_.2.co l_.2.po w (hs.has (⟨g, 87, [Value.slice A m c, Value.int .i64 (l_.2.k : Int), Value.int .i64 l_.2.co, Value.int .i64 l_.2.po], 4⟩) (by simp))) ?_
    refine TP.call (ι := Unit) (V := fun _ => .tuple #[]) (R := fun _ => True) (H' := fun _ => [⟨g3, 25, [Value.int .i64 o_.1, Value.int .i64 n_.1] ++ (Xx.map (Value.int .u8) ++ (Xy.map (Value.int .u8) ++ ([Value.slice Al ml cl]))), 67⟩, ⟨g2, 25, [Value.int .i64 0, Value.int .i64 0] ++ ((List.replicate 32 (0 : Int)).map (Value.int .u8) ++ ((List.replicate 32 (0 : Int)).map (Value.int .u8) ++ ([Value.slice none 0 0]))), 67⟩, ⟨g, 87, [Value.slice A m c, Value.int .i64 ((rFail l_.2 12 (l_.2.k : Int)).k : Int), Value.int .i64 ((rFail l_.2 12 (l_.2.k : Int)).co), Value.int .i64 ((rFail l_.2 12 (l_.2.k : Int)).po)], 4⟩] ++ Hl) (Wants.none rfl) rfl enters49 rfl rfl (fun w hs => (wfail_s g A m c l_.2 12 (l_.2.k : Int) (by decide) w (hs.has (⟨g, 87, [Value.slice A m c, Value.int .i64 (l_.2.k : Int), Value.int .i64 l_.2.co, Value.int .i64 l_.2.po], 4⟩) (by simp))).mono fun e w' ⟨he, hw⟩ => ⟨(), he, trivial, St.turn (i := 3) (e := ⟨g, 87, [Value.slice A m c, Value.int .i64 ((rFail l_.2 12 (l_.2.k : Int)).k : Int), Value.int .i64 ((rFail l_.2 12 (l_.2.k : Int)).co), Value.int .i64 ((rFail l_.2 12 (l_.2.k : Int)).po)], 4⟩) hs rfl rfl hw⟩) (fun _ _ => ?_)
    refine TP.nil ?_
    refine TE.heap (H' := [⟨g1, 62, [Value.pointer (some ⟨g, 0, none⟩)], 1⟩, ⟨g3, 25, [Value.int .i64 o_.1, Value.int .i64 n_.1] ++ (Xx.map (Value.int .u8) ++ (Xy.map (Value.int .u8) ++ ([Value.slice Al ml cl]))), 67⟩, ⟨g2, 25, [Value.int .i64 0, Value.int .i64 0] ++ ((List.replicate 32 (0 : Int)).map (Value.int .u8) ++ ((List.replicate 32 (0 : Int)).map (Value.int .u8) ++ ([Value.slice none 0 0]))), 67⟩, ⟨g, 87, [Value.slice A m c, Value.int .i64 ((rFail l_.2 12 (l_.2.k : Int)).k : Int), Value.int .i64 ((rFail l_.2 12 (l_.2.k : Int)).co), Value.int .i64 ((rFail l_.2 12 (l_.2.k : Int)).po)], 4⟩] ++ Hl) (fun w h => h) ?_
    refine gx ?_
    refine TC.pr [2, 3] ?_
    iterate 2 refine gx ?_
    refine TL.gets (Wants.none rfl) rfl (Gets.loadN rfl agg25 size25 rfl (vs := [Value.int .i64 o_.1, Value.int .i64 n_.1] ++ (Xx.map (Value.int .u8) ++ (Xy.map (Value.int .u8) ++ ([Value.slice Al ml cl])))) (by simp [hXx32, hXy32]) (Row.all (i := 1) (ent := ⟨g3, 25, [Value.int .i64 o_.1, Value.int .i64 n_.1] ++ (Xx.map (Value.int .u8) ++ (Xy.map (Value.int .u8) ++ ([Value.slice Al ml cl]))), 67⟩) rfl rfl rfl)) ?_
    refine TL.storeW (Wants.none rfl) rfl rfl size25 rfl (vs := [Value.int .i64 o_.1, Value.int .i64 n_.1] ++ (Xx.map (Value.int .u8) ++ (Xy.map (Value.int .u8) ++ ([Value.slice Al ml cl])))) rfl (by simp [hXx32, hXy32]) (ones_app (by simp [Value.oneCell']) (ones_app ints_one (ones_app ints_one (by simp [Value.oneCell'])))) (i := 2) (ent := ⟨g2, 25, [Value.int .i64 0, Value.int .i64 0] ++ ((List.replicate 32 (0 : Int)).map (Value.int .u8) ++ ((List.replicate 32 (0 : Int)).map (Value.int .u8) ++ ([Value.slice none 0 0]))), 67⟩) rfl rfl (by simp []) (H' := [⟨g1, 62, [Value.pointer (some ⟨g, 0, none⟩)], 1⟩, ⟨g3, 25, [Value.int .i64 o_.1, Value.int .i64 n_.1] ++ (Xx.map (Value.int .u8) ++ (Xy.map (Value.int .u8) ++ ([Value.slice Al ml cl]))), 67⟩, ⟨g2, 25, [Value.int .i64 o_.1, Value.int .i64 n_.1] ++ (Xx.map (Value.int .u8) ++ (Xy.map (Value.int .u8) ++ ([Value.slice Al ml cl]))), 67⟩, ⟨g, 87, [Value.slice A m c, Value.int .i64 ((rFail l_.2 12 (l_.2.k : Int)).k : Int), Value.int .i64 ((rFail l_.2 12 (l_.2.k : Int)).co), Value.int .i64 ((rFail l_.2 12 (l_.2.k : Int)).po)], 4⟩] ++ Hl) rfl ?_
    iterate 3 refine gx ?_
    have hqx : extraF B l_.2 = (rFail l_.2 12 (l_.2.k : Int)) := extraF_fail (by omega)
    have hdf : decF B z_.2 = ⟨o_.1, n_.1, x_.1, y_.1, l_.1, (rFail l_.2 12 (l_.2.k : Int))⟩ := by unfold decF; dsimp only; rw [ho_, hn_, hx_, hy_, hc_, hl_, hqx]
    have hlk := dec_link hBB he1 hz_ hdf
    exact TE.retC rfl agg25 size25 rfl (vs := [Value.int .i64 o_.1, Value.int .i64 n_.1] ++ (Xx.map (Value.int .u8) ++ (Xy.map (Value.int .u8) ++ ([Value.slice Al ml cl])))) (by simp [hXx32, hXy32]) (Row.all (i := 2) (ent := ⟨g2, 25, [Value.int .i64 o_.1, Value.int .i64 n_.1] ++ (Xx.map (Value.int .u8) ++ (Xy.map (Value.int .u8) ++ ([Value.slice Al ml cl]))), 67⟩) rfl rfl rfl) (fun w hs => ⟨o_.1, n_.1, Xx, Xy, Al, ml, cl, El, Hl, (rFail l_.2 12 (l_.2.k : Int)), rfl, hXx32, hXy32, hcl, hol, fun h0 => by have hbk := rDec_back hBB h0; have e9 := hlk.2 h0; rw [e9] at hbk h0 ⊢; rw [← hqx] at h0; have hla := (extraF_back h0).1; exact ⟨rfl, rfl, hXxe hbk.2.2.1, hXye hbk.2.2.2.1, (hEl hla).1, (hEl hla).2⟩, hlk.1, (((hs.erase (i := 2) rfl (by assumption)).erase (i := 1) rfl (by assumption)).erase (i := 0) rfl (by assumption))⟩)
  · iterate 4 refine gx ?_
    refine TL.gets (Wants.none rfl) rfl (Gets.loadN rfl agg25 size25 rfl (vs := [Value.int .i64 o_.1, Value.int .i64 n_.1] ++ (Xx.map (Value.int .u8) ++ (Xy.map (Value.int .u8) ++ ([Value.slice Al ml cl])))) (by simp [hXx32, hXy32]) (Row.all (i := 1) (ent := ⟨g3, 25, [Value.int .i64 o_.1, Value.int .i64 n_.1] ++ (Xx.map (Value.int .u8) ++ (Xy.map (Value.int .u8) ++ ([Value.slice Al ml cl]))), 67⟩) rfl rfl rfl)) ?_
    refine TL.storeW (Wants.none rfl) rfl rfl size25 rfl (vs := [Value.int .i64 o_.1, Value.int .i64 n_.1] ++ (Xx.map (Value.int .u8) ++ (Xy.map (Value.int .u8) ++ ([Value.slice Al ml cl])))) rfl (by simp [hXx32, hXy32]) (ones_app (by simp [Value.oneCell']) (ones_app ints_one (ones_app ints_one (by simp [Value.oneCell'])))) (i := 2) (ent := ⟨g2, 25, [Value.int .i64 0, Value.int .i64 0] ++ ((List.replicate 32 (0 : Int)).map (Value.int .u8) ++ ((List.replicate 32 (0 : Int)).map (Value.int .u8) ++ ([Value.slice none 0 0]))), 67⟩) rfl rfl (by simp []) (H' := [⟨g1, 62, [Value.pointer (some ⟨g, 0, none⟩)], 1⟩, ⟨g3, 25, [Value.int .i64 o_.1, Value.int .i64 n_.1] ++ (Xx.map (Value.int .u8) ++ (Xy.map (Value.int .u8) ++ ([Value.slice Al ml cl]))), 67⟩, ⟨g2, 25, [Value.int .i64 o_.1, Value.int .i64 n_.1] ++ (Xx.map (Value.int .u8) ++ (Xy.map (Value.int .u8) ++ ([Value.slice Al ml cl]))), 67⟩, ⟨g, 87, [Value.slice A m c, Value.int .i64 (l_.2.k : Int), Value.int .i64 l_.2.co, Value.int .i64 l_.2.po], 4⟩] ++ Hl) rfl ?_
    iterate 3 refine gx ?_
    have hqx : extraF B l_.2 = l_.2 := extraF_F (fun h => by have := h.2; omega)
    have hdf : decF B z_.2 = ⟨o_.1, n_.1, x_.1, y_.1, l_.1, l_.2⟩ := by unfold decF; dsimp only; rw [ho_, hn_, hx_, hy_, hc_, hl_, hqx]
    have hlk := dec_link hBB he1 hz_ hdf
    exact TE.retC rfl agg25 size25 rfl (vs := [Value.int .i64 o_.1, Value.int .i64 n_.1] ++ (Xx.map (Value.int .u8) ++ (Xy.map (Value.int .u8) ++ ([Value.slice Al ml cl])))) (by simp [hXx32, hXy32]) (Row.all (i := 2) (ent := ⟨g2, 25, [Value.int .i64 o_.1, Value.int .i64 n_.1] ++ (Xx.map (Value.int .u8) ++ (Xy.map (Value.int .u8) ++ ([Value.slice Al ml cl]))), 67⟩) rfl rfl rfl) (fun w hs => ⟨o_.1, n_.1, Xx, Xy, Al, ml, cl, El, Hl, l_.2, rfl, hXx32, hXy32, hcl, hol, fun h0 => by have hbk := rDec_back hBB h0; have e9 := hlk.2 h0; rw [e9] at hbk h0 ⊢; rw [← hqx] at h0; have hla := (extraF_back h0).1; exact ⟨rfl, rfl, hXxe hbk.2.2.1, hXye hbk.2.2.2.1, (hEl hla).1, (hEl hla).2⟩, hlk.1, (((hs.erase (i := 2) rfl (by assumption)).erase (i := 1) rfl (by assumption)).erase (i := 0) rfl (by assumption))⟩)
end Go.Proofs.Ytclmgfcdnokaiaa
/-
  The code of layer 7: Decode.
-/
namespace Go.Proofs.Ytclmgfcdnokaiaa
set_option linter.unusedVariables false
set_option linter.unusedSimpArgs false
open Go Go.RowKit
theorem enters26 : Enters Try.prog 26 := ⟨_, Try.func26, by kernel_rfl, by kernel_rfl⟩
theorem enters27 : Enters Try.prog 27 := ⟨_, Try.func27, by kernel_rfl, by kernel_rfl⟩
theorem zero62 : (Try.prog.info? 62).bind (·.zero) = some (.agg #[.pointer none]) := by kernel_rfl
instance : AgY Try.prog 36 := ⟨agg36⟩
instance : Zer Try.prog 62 [Value.pointer none] := ⟨⟨_, zero62, rfl⟩⟩
set_option maxRecDepth 100000 in
set_option maxHeartbeats 2000000 in
theorem fdec_bad (B : List Int) (A : Option Addr) (m c : Nat) (w : World) (hsB : Src w A m .u8 B) (hBB : Bytes B) (hmc : m ≤ c) (hcm : c ≤ 9223372036854775807) (hm : m ≤ 100000) (hco : (rDec B).s.co ≠ 0) : Calls Try.prog 15 #[.slice A m c] w fun e w' => e = .returned (.tuple #[.agg ([Value.int .i64 0, Value.int .i64 0] ++ ((List.replicate 32 (0 : Int)).map (Value.int .u8) ++ ((List.replicate 32 (0 : Int)).map (Value.int .u8) ++ ([Value.slice none 0 0])))).toArray, .agg ([Value.int .i64 ((rDec B).s.co), Value.int .i64 ((rDec B).s.po)]).toArray]) ∧ St w [] w' := by
  refine calls_from (args := [.slice A m c]) Try.func15 rfl Try.ntmps15 (by simp) ?_
  refine TC.pr [0] ?_
  iterate 2 refine gx ?_
  refine TL.alloc (Wants.none rfl) rfl rfl zero25 (cs := [Value.int .i64 0, Value.int .i64 0] ++ ((List.replicate 32 (0 : Int)).map (Value.int .u8) ++ ((List.replicate 32 (0 : Int)).map (Value.int .u8) ++ ([Value.slice none 0 0])))) (by first | rfl | kernel_rfl) (tot := 67) (by simp) (fun g1 hg1 => ?_)
  refine TL.al (fun g2 hg2 => ?_)
  iterate 5 refine gx ?_
  refine TL.call (ι := Nat × (Option Addr × Nat) × List Ent) (V := fun y => .pointer (some ⟨y.1, 0, none⟩)) (R := fun y => Own w.heap.size 5 .u8 (.slice y.2.1.1 m y.2.1.2) B y.2.2 ∧ w.heap.size ≤ y.1) (H' := fun y => (⟨y.1, 87, rdC y.2.1.1 m y.2.1.2 0 0 0, rdN⟩ : Ent) :: [⟨g2, 36, [Value.int .i64 0, Value.int .i64 0], 2⟩, ⟨g1, 25, [Value.int .i64 0, Value.int .i64 0] ++ ((List.replicate 32 (0 : Int)).map (Value.int .u8) ++ ((List.replicate 32 (0 : Int)).map (Value.int .u8) ++ ([Value.slice none 0 0]))), 67⟩] ++ y.2.2) (Wants.none rfl) rfl enters26 rfl rfl (fun w' hs => (new_c B A m c w' (hsB.at_ hs (fun b hb => (ne_cons (by show g2 ≠ b; omega) (ne_cons (by show g1 ≠ b; omega) ne_nil)))) (by omega) (by omega)).mono fun e w'' ⟨g, A', c', He, he, ho, hg, hw⟩ => ⟨(g, (A', c'), He), he, ⟨own_mono ho hs.size, Nat.le_trans hs.size hg⟩, (st_call hs hw (Fresh.cons (w0 := w') hg ho.new)).perm List.perm_middle⟩) (fun y hR => ?_)
  obtain ⟨gr, ⟨AN, cN⟩, HN⟩ := y
  obtain ⟨hON, hgr⟩ := hR
  dsimp only at hON hgr ⊢
  obtain ⟨hcN, hdN⟩ : m ≤ cN ∧ cN ≤ 9223372036854775807 := by obtain ⟨_, _, h1, h2, h3⟩ := hON.form; cases h1; exact ⟨by omega, h3⟩
  have hFN : Fresh w HN := hON.fr7
  refine TL.gets (Wants.none rfl) rfl (Gets.build rfl (vs := [(0, Value.pointer (some ⟨gr, 0, none⟩))]) rfl (fun w => by first | rfl | kernel_rfl) (v := .agg ([Value.pointer (some ⟨gr, 0, none⟩)]).toArray)) ?_
  refine TL.al (fun g3 hg3 => ?_)
  refine TL.storeW (Wants.none rfl) rfl rfl size62 rfl (vs := [Value.pointer (some ⟨gr, 0, none⟩)]) rfl (by simp []) (by simp [Value.oneCell']) (i := 0) (ent := ⟨g3, 62, [Value.pointer none], 1⟩) rfl rfl (by simp []) (H' := [⟨g3, 62, [Value.pointer (some ⟨gr, 0, none⟩)], 1⟩, ⟨gr, 87, [Value.slice AN m cN, Value.int .i64 0, Value.int .i64 0, Value.int .i64 0], 4⟩, ⟨g2, 36, [Value.int .i64 0, Value.int .i64 0], 2⟩, ⟨g1, 25, [Value.int .i64 0, Value.int .i64 0] ++ ((List.replicate 32 (0 : Int)).map (Value.int .u8) ++ ((List.replicate 32 (0 : Int)).map (Value.int .u8) ++ ([Value.slice none 0 0]))), 67⟩] ++ HN) rfl ?_
  iterate 5 refine gx ?_
  refine TL.call (ι := ((Int × Int) × List Int × List Int) × (Option Addr × Nat × Nat) × List CV × List Ent × RS) (V := fun y => .agg ([Value.int .i64 y.1.1.1, Value.int .i64 y.1.1.2] ++ (y.1.2.1.map (Value.int .u8) ++ (y.1.2.2.map (Value.int .u8) ++ ([Value.slice y.2.1.1 y.2.1.2.1 y.2.1.2.2])))).toArray) (R := fun y => y.1.2.1.length = 32 ∧ y.1.2.2.length = 32 ∧ (y.2.1.2.1 ≤ y.2.1.2.2 ∧ y.2.1.2.2 ≤ 9223372036854775807) ∧ OwnD w.heap.size y.2.1.1 y.2.1.2.1 y.2.2.1 y.2.2.2.1 ∧ ((rDec B).s.co = 0 → y.1.1.1 = (rDec B).o ∧ y.1.1.2 = (rDec B).n ∧ y.1.2.1 = (rDec B).h1 ∧ y.1.2.2 = (rDec B).h2 ∧ y.2.2.1.map cmC = (rDec B).Cs ∧ y.2.2.1.length = y.2.1.2.1) ∧ (y.2.2.2.2.co = (rDec B).s.co ∧ y.2.2.2.2.po = (rDec B).s.po)) (H' := fun y => ([⟨g3, 62, [Value.pointer (some ⟨gr, 0, none⟩)], 1⟩, ⟨gr, 87, rdC AN m cN y.2.2.2.2.k y.2.2.2.2.co y.2.2.2.2.po, rdN⟩, ⟨g2, 36, [Value.int .i64 0, Value.int .i64 0], 2⟩, ⟨g1, 25, [Value.int .i64 0, Value.int .i64 0] ++ ((List.replicate 32 (0 : Int)).map (Value.int .u8) ++ ((List.replicate 32 (0 : Int)).map (Value.int .u8) ++ ([Value.slice none 0 0]))), 67⟩] : List Ent) ++ (HN ++ y.2.2.2.1)) (Wants.none rfl) rfl enters27 rfl rfl (fun w' hs => (delta_s gr AN m cN w' (hs.has (⟨gr, 87, [Value.slice AN m cN, Value.int .i64 0, Value.int .i64 0, Value.int .i64 0], 4⟩) (by simp)) (by omega) (by omega) B (hON.srcX (fun e he => hs.has e (by simp [he])) (fun e he x hx => by rw [List.mem_singleton.1 hx]; exact hs.beside (H := [⟨g3, 62, [Value.pointer (some ⟨gr, 0, none⟩)], 1⟩, ⟨gr, 87, [Value.slice AN m cN, Value.int .i64 0, Value.int .i64 0, Value.int .i64 0], 4⟩, ⟨g2, 36, [Value.int .i64 0, Value.int .i64 0], 2⟩, ⟨g1, 25, [Value.int .i64 0, Value.int .i64 0] ++ ((List.replicate 32 (0 : Int)).map (Value.int .u8) ++ ((List.replicate 32 (0 : Int)).map (Value.int .u8) ++ ([Value.slice none 0 0]))), 67⟩]) (d := ⟨gr, 87, [Value.slice AN m cN, Value.int .i64 0, Value.int .i64 0, Value.int .i64 0], 4⟩) (by simp) e he)) hBB (by omega)).mono fun e w'' ⟨o', n', X, Y, A1, m1, c1, Es, He, q, he, h1, h2, h3, h4, h5, h6, hw⟩ => ⟨(((o', n'), X, Y), (A1, m1, c1), Es, He, q), he, ⟨h1, h2, h3, h4.mono hs.size, h5, h6⟩, (St.assoc3 (X := ([⟨g3, 62, [Value.pointer (some ⟨gr, 0, none⟩)], 1⟩, ⟨gr, 87, rdC AN m cN q.k q.co q.po, rdN⟩, ⟨g2, 36, [Value.int .i64 0, Value.int .i64 0], 2⟩, ⟨g1, 25, [Value.int .i64 0, Value.int .i64 0] ++ ((List.replicate 32 (0 : Int)).map (Value.int .u8) ++ ((List.replicate 32 (0 : Int)).map (Value.int .u8) ++ ([Value.slice none 0 0]))), 67⟩] : List Ent)) (Y := HN) (St.turnE (i := 1) (e := ⟨gr, 87, rdC AN m cN q.k q.co q.po, rdN⟩) hs rfl rfl hw h4.1))⟩) (fun y hR => ?_)
  obtain ⟨⟨⟨oD, nD⟩, XD, YD⟩, ⟨AD, mD, cD⟩, ED, HD, qD⟩ := y
  obtain ⟨hXD, hYD, hcD, hoD, hvD, hqD⟩ := hR
  dsimp only at hXD hYD hcD hoD hvD hqD ⊢
  have hFD : Fresh w HD := hoD.1
  have hFND := Fresh.app hFN hFD
  refine TL.alloc (Wants.none rfl) rfl rfl zero25 (cs := [Value.int .i64 0, Value.int .i64 0] ++ ((List.replicate 32 (0 : Int)).map (Value.int .u8) ++ ((List.replicate 32 (0 : Int)).map (Value.int .u8) ++ ([Value.slice none 0 0])))) (by first | rfl | kernel_rfl) (tot := 67) (by simp) (fun g4 hg4 => ?_)
  refine TL.storeW (Wants.none rfl) rfl rfl size25 rfl (vs := [Value.int .i64 oD, Value.int .i64 nD] ++ (XD.map (Value.int .u8) ++ (YD.map (Value.int .u8) ++ ([Value.slice AD mD cD])))) rfl (by simp [hXD, hYD]) (ones_app (by simp [Value.oneCell']) (ones_app ints_one (ones_app ints_one (by simp [Value.oneCell'])))) (i := 0) (ent := ⟨g4, 25, [Value.int .i64 0, Value.int .i64 0] ++ ((List.replicate 32 (0 : Int)).map (Value.int .u8) ++ ((List.replicate 32 (0 : Int)).map (Value.int .u8) ++ ([Value.slice none 0 0]))), 67⟩) rfl rfl (by simp []) (H' := [⟨g4, 25, [Value.int .i64 oD, Value.int .i64 nD] ++ (XD.map (Value.int .u8) ++ (YD.map (Value.int .u8) ++ ([Value.slice AD mD cD]))), 67⟩, ⟨g3, 62, [Value.pointer (some ⟨gr, 0, none⟩)], 1⟩, ⟨gr, 87, [Value.slice AN m cN, Value.int .i64 (qD.k : Int), Value.int .i64 qD.co, Value.int .i64 qD.po], 4⟩, ⟨g2, 36, [Value.int .i64 0, Value.int .i64 0], 2⟩, ⟨g1, 25, [Value.int .i64 0, Value.int .i64 0] ++ ((List.replicate 32 (0 : Int)).map (Value.int .u8) ++ ((List.replicate 32 (0 : Int)).map (Value.int .u8) ++ ([Value.slice none 0 0]))), 67⟩] ++ (HN ++ HD)) rfl ?_
  iterate 2 refine gx ?_
  refine TC.pr [2, 3, 4, 5] ?_
  iterate 5 refine gx ?_
  refine TL.call0 (Wants.none rfl) rfl enters28 rfl rfl (v := .agg ([Value.int .i64 qD.co, Value.int .i64 qD.po]).toArray) (fun w hs => fault_c gr AN m cN qD.k qD.co qD.po w (hs.has (⟨gr, 87, [Value.slice AN m cN, Value.int .i64 (qD.k : Int), Value.int .i64 qD.co, Value.int .i64 qD.po], 4⟩) (by simp))) ?_
  refine TL.al (fun g5 hg5 => ?_)
  refine TL.storeW (Wants.none rfl) rfl rfl size36 rfl (vs := [Value.int .i64 qD.co, Value.int .i64 qD.po]) rfl (by simp []) (by simp [Value.oneCell']) (i := 0) (ent := ⟨g5, 36, [Value.int .i64 0, Value.int .i64 0], 2⟩) rfl rfl (by simp []) (H' := [⟨g5, 36, [Value.int .i64 qD.co, Value.int .i64 qD.po], 2⟩, ⟨g4, 25, [Value.int .i64 oD, Value.int .i64 nD] ++ (XD.map (Value.int .u8) ++ (YD.map (Value.int .u8) ++ ([Value.slice AD mD cD]))), 67⟩, ⟨g3, 62, [Value.pointer (some ⟨gr, 0, none⟩)], 1⟩, ⟨gr, 87, [Value.slice AN m cN, Value.int .i64 (qD.k : Int), Value.int .i64 qD.co, Value.int .i64 qD.po], 4⟩, ⟨g2, 36, [Value.int .i64 0, Value.int .i64 0], 2⟩, ⟨g1, 25, [Value.int .i64 0, Value.int .i64 0] ++ ((List.replicate 32 (0 : Int)).map (Value.int .u8) ++ ((List.replicate 32 (0 : Int)).map (Value.int .u8) ++ ([Value.slice none 0 0]))), 67⟩] ++ (HN ++ HD)) rfl ?_
  iterate 5 refine gx ?_
  refine TL.gets (Wants.none rfl) rfl (Gets.build rfl (vs := []) rfl (fun w => by first | rfl | kernel_rfl) (v := .agg ([Value.int .i64 0, Value.int .i64 0]).toArray)) ?_
  refine TL.gets (Wants.none rfl) rfl (Gets.isTrue (Gets.pairNe rfl Try.underlying36 (by decide) (by decide) rfl rfl Try.underlying29 Try.underlying3 sih36 geq36 rfl rfl) (fun h => hco (by rw [← hqD.1]; exact h.1))) ?_
  iterate 2 refine gx ?_
  refine TC.pr [2, 3, 5, 6, 17] ?_
  refine TC.yes rfl ?_
  refine gx ?_
  refine TC.heap (H' := [⟨g5, 36, [Value.int .i64 qD.co, Value.int .i64 qD.po], 2⟩] ++ ([⟨g4, 25, [Value.int .i64 oD, Value.int .i64 nD] ++ (XD.map (Value.int .u8) ++ (YD.map (Value.int .u8) ++ ([Value.slice AD mD cD]))), 67⟩, ⟨g3, 62, [Value.pointer (some ⟨gr, 0, none⟩)], 1⟩, ⟨gr, 87, [Value.slice AN m cN, Value.int .i64 (qD.k : Int), Value.int .i64 qD.co, Value.int .i64 qD.po], 4⟩, ⟨g2, 36, [Value.int .i64 0, Value.int .i64 0], 2⟩, ⟨g1, 25, [Value.int .i64 0, Value.int .i64 0] ++ ((List.replicate 32 (0 : Int)).map (Value.int .u8) ++ ((List.replicate 32 (0 : Int)).map (Value.int .u8) ++ ([Value.slice none 0 0]))), 67⟩] ++ (HN ++ HD))) (fun w h => h) ?_
  refine TC.mixB (HB := [Ent.mk g5 36 ([Value.int .i64 qD.co, Value.int .i64 qD.po]) 2]) (H := [Ent.mk g4 25 ([Value.int .i64 oD, Value.int .i64 nD] ++ (XD.map (Value.int .u8) ++ (YD.map (Value.int .u8) ++ ([Value.slice AD mD cD])))) 67, Ent.mk g3 62 ([Value.pointer (some ⟨gr, 0, none⟩)]) 1, Ent.mk gr 87 ([Value.slice AN m cN, Value.int .i64 (qD.k : Int), Value.int .i64 qD.co, Value.int .i64 qD.po]) 4, Ent.mk g2 36 ([Value.int .i64 0, Value.int .i64 0]) 2, Ent.mk g1 25 ([Value.int .i64 0, Value.int .i64 0] ++ ((List.replicate 32 (0 : Int)).map (Value.int .u8) ++ ((List.replicate 32 (0 : Int)).map (Value.int .u8) ++ ([Value.slice none 0 0])))) 67] ++ (HN ++ HD)) (by kernel_rfl) [0, 0, 8, 8] [0, 1, 2, 3] (by kernel_rfl) ?_
  refine TP.free (Wants.none rfl) rfl (fun _ => Gets.build rfl (vs := []) rfl (fun w => by first | rfl | kernel_rfl) (v := .agg ([Value.int .i64 0, Value.int .i64 0] ++ ((List.replicate 32 (0 : Int)).map (Value.int .u8) ++ ((List.replicate 32 (0 : Int)).map (Value.int .u8) ++ ([Value.slice none 0 0])))).toArray)) ?_
  refine TP.stay (Wants.none rfl) rfl (fun H' => Gets.loadN rfl agg36 size36 rfl (vs := [Value.int .i64 qD.co, Value.int .i64 qD.po]) (by simp []) (Row.all (i := 0) (ent := ⟨g5, 36, [Value.int .i64 qD.co, Value.int .i64 qD.po], 2⟩) rfl rfl rfl)) ?_
  refine TP.storeW (Wants.none rfl) rfl rfl size25 rfl (vs := [Value.int .i64 0, Value.int .i64 0] ++ ((List.replicate 32 (0 : Int)).map (Value.int .u8) ++ ((List.replicate 32 (0 : Int)).map (Value.int .u8) ++ ([Value.slice none 0 0])))) rfl (by simp []) (ones_app (by simp [Value.oneCell']) (ones_app ints_one (ones_app ints_one (by simp [Value.oneCell'])))) (i := 5) (ent := ⟨g1, 25, [Value.int .i64 0, Value.int .i64 0] ++ ((List.replicate 32 (0 : Int)).map (Value.int .u8) ++ ((List.replicate 32 (0 : Int)).map (Value.int .u8) ++ ([Value.slice none 0 0]))), 67⟩) rfl rfl (by simp []) (H' := [⟨g4, 25, [Value.int .i64 oD, Value.int .i64 nD] ++ (XD.map (Value.int .u8) ++ (YD.map (Value.int .u8) ++ ([Value.slice AD mD cD]))), 67⟩, ⟨g3, 62, [Value.pointer (some ⟨gr, 0, none⟩)], 1⟩, ⟨gr, 87, [Value.slice AN m cN, Value.int .i64 (qD.k : Int), Value.int .i64 qD.co, Value.int .i64 qD.po], 4⟩, ⟨g2, 36, [Value.int .i64 0, Value.int .i64 0], 2⟩, ⟨g1, 25, [Value.int .i64 0, Value.int .i64 0] ++ ((List.replicate 32 (0 : Int)).map (Value.int .u8) ++ ((List.replicate 32 (0 : Int)).map (Value.int .u8) ++ ([Value.slice none 0 0]))), 67⟩] ++ (HN ++ HD)) rfl ?_
  refine TP.storeW (Wants.none rfl) rfl rfl size36 rfl (vs := [Value.int .i64 qD.co, Value.int .i64 qD.po]) rfl (by simp []) (by simp [Value.oneCell']) (i := 4) (ent := ⟨g2, 36, [Value.int .i64 0, Value.int .i64 0], 2⟩) rfl rfl (by simp []) (H' := [⟨g4, 25, [Value.int .i64 oD, Value.int .i64 nD] ++ (XD.map (Value.int .u8) ++ (YD.map (Value.int .u8) ++ ([Value.slice AD mD cD]))), 67⟩, ⟨g3, 62, [Value.pointer (some ⟨gr, 0, none⟩)], 1⟩, ⟨gr, 87, [Value.slice AN m cN, Value.int .i64 (qD.k : Int), Value.int .i64 qD.co, Value.int .i64 qD.po], 4⟩, ⟨g2, 36, [Value.int .i64 qD.co, Value.int .i64 qD.po], 2⟩, ⟨g1, 25, [Value.int .i64 0, Value.int .i64 0] ++ ((List.replicate 32 (0 : Int)).map (Value.int .u8) ++ ((List.replicate 32 (0 : Int)).map (Value.int .u8) ++ ([Value.slice none 0 0]))), 67⟩] ++ (HN ++ HD)) rfl ?_
  refine TP.nil ?_
  refine TE.heap (H' := [⟨g5, 36, [Value.int .i64 qD.co, Value.int .i64 qD.po], 2⟩, ⟨g4, 25, [Value.int .i64 oD, Value.int .i64 nD] ++ (XD.map (Value.int .u8) ++ (YD.map (Value.int .u8) ++ ([Value.slice AD mD cD]))), 67⟩, ⟨g3, 62, [Value.pointer (some ⟨gr, 0, none⟩)], 1⟩, ⟨gr, 87, [Value.slice AN m cN, Value.int .i64 (qD.k : Int), Value.int .i64 qD.co, Value.int .i64 qD.po], 4⟩, ⟨g2, 36, [Value.int .i64 qD.co, Value.int .i64 qD.po], 2⟩, ⟨g1, 25, [Value.int .i64 0, Value.int .i64 0] ++ ((List.replicate 32 (0 : Int)).map (Value.int .u8) ++ ((List.replicate 32 (0 : Int)).map (Value.int .u8) ++ ([Value.slice none 0 0]))), 67⟩] ++ (HN ++ HD)) (fun w h => h) ?_
  iterate 3 refine gx ?_
  obtain ⟨hq1, hq2⟩ := hqD
  exact TE.ret2CC rfl agg25 size25 agg36 size36 rfl (vs := [Value.int .i64 0, Value.int .i64 0] ++ ((List.replicate 32 (0 : Int)).map (Value.int .u8) ++ ((List.replicate 32 (0 : Int)).map (Value.int .u8) ++ ([Value.slice none 0 0])))) (by simp []) (Row.all (i := 5) (ent := ⟨g1, 25, [Value.int .i64 0, Value.int .i64 0] ++ ((List.replicate 32 (0 : Int)).map (Value.int .u8) ++ ((List.replicate 32 (0 : Int)).map (Value.int .u8) ++ ([Value.slice none 0 0]))), 67⟩) rfl rfl rfl) rfl (us := [Value.int .i64 qD.co, Value.int .i64 qD.po]) rfl (Row.all (i := 4) (ent := ⟨g2, 36, [Value.int .i64 qD.co, Value.int .i64 qD.po], 2⟩) rfl rfl rfl) (fun w hs => ⟨by rw [hq1, hq2], St.left (H := []) ((((((hs.drop (by assumption)).drop (by assumption)).drop (by assumption)).drop (by assumption)).drop (by assumption)).drop (by assumption)) hFND⟩)

set_option maxRecDepth 100000 in
set_option maxHeartbeats 2000000 in
theorem fdec_good (B : List Int) (A : Option Addr) (m c : Nat) (w : World) (hsB : Src w A m .u8 B) (hBB : Bytes B) (hmc : m ≤ c) (hcm : c ≤ 9223372036854775807) (hm : m ≤ 100000) (hco : (rDec B).s.co = 0) : Calls Try.prog 15 #[.slice A m c] w fun e w' => ∃ (A' : Option Addr) (c' : Nat) (Es : List CV) (He : List Ent), e = .returned (.tuple #[.agg ([Value.int .i64 (rDec B).o, Value.int .i64 (rDec B).n] ++ ((rDec B).h1.map (Value.int .u8) ++ ((rDec B).h2.map (Value.int .u8) ++ [Value.slice A' (rDec B).Cs.length c']))).toArray, .agg ([Value.int .i64 0, Value.int .i64 0]).toArray]) ∧ ((rDec B).Cs.length ≤ c' ∧ c' ≤ 9223372036854775807) ∧ OwnD w.heap.size A' (rDec B).Cs.length Es He ∧ Es.map cmC = (rDec B).Cs ∧ St w He w' := by
  refine calls_from (args := [.slice A m c]) Try.func15 rfl Try.ntmps15 (by simp) ?_
  refine TC.pr [0] ?_
  iterate 2 refine gx ?_
  refine TL.alloc (Wants.none rfl) rfl rfl zero25 (cs := [Value.int .i64 0, Value.int .i64 0] ++ ((List.replicate 32 (0 : Int)).map (Value.int .u8) ++ ((List.replicate 32 (0 : Int)).map (Value.int .u8) ++ ([Value.slice none 0 0])))) (by first | rfl | kernel_rfl) (tot := 67) (by simp) (fun g1 hg1 => ?_)
  refine TL.al (fun g2 hg2 => ?_)
  iterate 5 refine gx ?_
  refine TL.call (ι := Nat × (Option Addr × Nat) × List Ent) (V := fun y => .pointer (some ⟨y.1, 0, none⟩)) (R := fun y => Own w.heap.size 5 .u8 (.slice y.2.1.1 m y.2.1.2) B y.2.2 ∧ w.heap.size ≤ y.1) (H' := fun y => (⟨y.1, 87, rdC y.2.1.1 m y.2.1.2 0 0 0, rdN⟩ : Ent) :: [⟨g2, 36, [Value.int .i64 0, Value.int .i64 0], 2⟩, ⟨g1, 25, [Value.int .i64 0, Value.int .i64 0] ++ ((List.replicate 32 (0 : Int)).map (Value.int .u8) ++ ((List.replicate 32 (0 : Int)).map (Value.int .u8) ++ ([Value.slice none 0 0]))), 67⟩] ++ y.2.2) (Wants.none rfl) rfl enters26 rfl rfl (fun w' hs => (new_c B A m c w' (hsB.at_ hs (fun b hb => (ne_cons (by show g2 ≠ b; omega) (ne_cons (by show g1 ≠ b; omega) ne_nil)))) (by omega) (by omega)).mono fun e w'' ⟨g, A', c', He, he, ho, hg, hw⟩ => ⟨(g, (A', c'), He), he, ⟨own_mono ho hs.size, Nat.le_trans hs.size hg⟩, (st_call hs hw (Fresh.cons (w0 := w') hg ho.new)).perm List.perm_middle⟩) (fun y hR => ?_)
  obtain ⟨gr, ⟨AN, cN⟩, HN⟩ := y
  obtain ⟨hON, hgr⟩ := hR
  dsimp only at hON hgr ⊢
  obtain ⟨hcN, hdN⟩ : m ≤ cN ∧ cN ≤ 9223372036854775807 := by obtain ⟨_, _, h1, h2, h3⟩ := hON.form; cases h1; exact ⟨by omega, h3⟩
  have hFN : Fresh w HN := hON.fr7
  refine TL.gets (Wants.none rfl) rfl (Gets.build rfl (vs := [(0, Value.pointer (some ⟨gr, 0, none⟩))]) rfl (fun w => by first | rfl | kernel_rfl) (v := .agg ([Value.pointer (some ⟨gr, 0, none⟩)]).toArray)) ?_
  refine TL.al (fun g3 hg3 => ?_)
  refine TL.storeW (Wants.none rfl) rfl rfl size62 rfl (vs := [Value.pointer (some ⟨gr, 0, none⟩)]) rfl (by simp []) (by simp [Value.oneCell']) (i := 0) (ent := ⟨g3, 62, [Value.pointer none], 1⟩) rfl rfl (by simp []) (H' := [⟨g3, 62, [Value.pointer (some ⟨gr, 0, none⟩)], 1⟩, ⟨gr, 87, [Value.slice AN m cN, Value.int .i64 0, Value.int .i64 0, Value.int .i64 0], 4⟩, ⟨g2, 36, [Value.int .i64 0, Value.int .i64 0], 2⟩, ⟨g1, 25, [Value.int .i64 0, Value.int .i64 0] ++ ((List.replicate 32 (0 : Int)).map (Value.int .u8) ++ ((List.replicate 32 (0 : Int)).map (Value.int .u8) ++ ([Value.slice none 0 0]))), 67⟩] ++ HN) rfl ?_
  iterate 5 refine gx ?_
  refine TL.call (ι := ((Int × Int) × List Int × List Int) × (Option Addr × Nat × Nat) × List CV × List Ent × RS) (V := fun y => .agg ([Value.int .i64 y.1.1.1, Value.int .i64 y.1.1.2] ++ (y.1.2.1.map (Value.int .u8) ++ (y.1.2.2.map (Value.int .u8) ++ ([Value.slice y.2.1.1 y.2.1.2.1 y.2.1.2.2])))).toArray) (R := fun y => y.1.2.1.length = 32 ∧ y.1.2.2.length = 32 ∧ (y.2.1.2.1 ≤ y.2.1.2.2 ∧ y.2.1.2.2 ≤ 9223372036854775807) ∧ OwnD w.heap.size y.2.1.1 y.2.1.2.1 y.2.2.1 y.2.2.2.1 ∧ ((rDec B).s.co = 0 → y.1.1.1 = (rDec B).o ∧ y.1.1.2 = (rDec B).n ∧ y.1.2.1 = (rDec B).h1 ∧ y.1.2.2 = (rDec B).h2 ∧ y.2.2.1.map cmC = (rDec B).Cs ∧ y.2.2.1.length = y.2.1.2.1) ∧ (y.2.2.2.2.co = (rDec B).s.co ∧ y.2.2.2.2.po = (rDec B).s.po)) (H' := fun y => ([⟨g3, 62, [Value.pointer (some ⟨gr, 0, none⟩)], 1⟩, ⟨gr, 87, rdC AN m cN y.2.2.2.2.k y.2.2.2.2.co y.2.2.2.2.po, rdN⟩, ⟨g2, 36, [Value.int .i64 0, Value.int .i64 0], 2⟩, ⟨g1, 25, [Value.int .i64 0, Value.int .i64 0] ++ ((List.replicate 32 (0 : Int)).map (Value.int .u8) ++ ((List.replicate 32 (0 : Int)).map (Value.int .u8) ++ ([Value.slice none 0 0]))), 67⟩] : List Ent) ++ (HN ++ y.2.2.2.1)) (Wants.none rfl) rfl enters27 rfl rfl (fun w' hs => (delta_s gr AN m cN w' (hs.has (⟨gr, 87, [Value.slice AN m cN, Value.int .i64 0, Value.int .i64 0, Value.int .i64 0], 4⟩) (by simp)) (by omega) (by omega) B (hON.srcX (fun e he => hs.has e (by simp [he])) (fun e he x hx => by rw [List.mem_singleton.1 hx]; exact hs.beside (H := [⟨g3, 62, [Value.pointer (some ⟨gr, 0, none⟩)], 1⟩, ⟨gr, 87, [Value.slice AN m cN, Value.int .i64 0, Value.int .i64 0, Value.int .i64 0], 4⟩, ⟨g2, 36, [Value.int .i64 0, Value.int .i64 0], 2⟩, ⟨g1, 25, [Value.int .i64 0, Value.int .i64 0] ++ ((List.replicate 32 (0 : Int)).map (Value.int .u8) ++ ((List.replicate 32 (0 : Int)).map (Value.int .u8) ++ ([Value.slice none 0 0]))), 67⟩]) (d := ⟨gr, 87, [Value.slice AN m cN, Value.int .i64 0, Value.int .i64 0, Value.int .i64 0], 4⟩) (by simp) e he)) hBB (by omega)).mono fun e w'' ⟨o', n', X, Y, A1, m1, c1, Es, He, q, he, h1, h2, h3, h4, h5, h6, hw⟩ => ⟨(((o', n'), X, Y), (A1, m1, c1), Es, He, q), he, ⟨h1, h2, h3, h4.mono hs.size, h5, h6⟩, (St.assoc3 (X := ([⟨g3, 62, [Value.pointer (some ⟨gr, 0, none⟩)], 1⟩, ⟨gr, 87, rdC AN m cN q.k q.co q.po, rdN⟩, ⟨g2, 36, [Value.int .i64 0, Value.int .i64 0], 2⟩, ⟨g1, 25, [Value.int .i64 0, Value.int .i64 0] ++ ((List.replicate 32 (0 : Int)).map (Value.int .u8) ++ ((List.replicate 32 (0 : Int)).map (Value.int .u8) ++ ([Value.slice none 0 0]))), 67⟩] : List Ent)) (Y := HN) (St.turnE (i := 1) (e := ⟨gr, 87, rdC AN m cN q.k q.co q.po, rdN⟩) hs rfl rfl hw h4.1))⟩) (fun y hR => ?_)
  obtain ⟨⟨⟨oD, nD⟩, XD, YD⟩, ⟨AD, mD, cD⟩, ED, HD, qD⟩ := y
  obtain ⟨hXD, hYD, hcD, hoD, hvD, hqD⟩ := hR
  dsimp only at hXD hYD hcD hoD hvD hqD ⊢
  have hFD : Fresh w HD := hoD.1
  have hFND := Fresh.app hFN hFD
  refine TL.alloc (Wants.none rfl) rfl rfl zero25 (cs := [Value.int .i64 0, Value.int .i64 0] ++ ((List.replicate 32 (0 : Int)).map (Value.int .u8) ++ ((List.replicate 32 (0 : Int)).map (Value.int .u8) ++ ([Value.slice none 0 0])))) (by first | rfl | kernel_rfl) (tot := 67) (by simp) (fun g4 hg4 => ?_)
  refine TL.storeW (Wants.none rfl) rfl rfl size25 rfl (vs := [Value.int .i64 oD, Value.int .i64 nD] ++ (XD.map (Value.int .u8) ++ (YD.map (Value.int .u8) ++ ([Value.slice AD mD cD])))) rfl (by simp [hXD, hYD]) (ones_app (by simp [Value.oneCell']) (ones_app ints_one (ones_app ints_one (by simp [Value.oneCell'])))) (i := 0) (ent := ⟨g4, 25, [Value.int .i64 0, Value.int .i64 0] ++ ((List.replicate 32 (0 : Int)).map (Value.int .u8) ++ ((List.replicate 32 (0 : Int)).map (Value.int .u8) ++ ([Value.slice none 0 0]))), 67⟩) rfl rfl (by simp []) (H' := [⟨g4, 25, [Value.int .i64 oD, Value.int .i64 nD] ++ (XD.map (Value.int .u8) ++ (YD.map (Value.int .u8) ++ ([Value.slice AD mD cD]))), 67⟩, ⟨g3, 62, [Value.pointer (some ⟨gr, 0, none⟩)], 1⟩, ⟨gr, 87, [Value.slice AN m cN, Value.int .i64 (qD.k : Int), Value.int .i64 qD.co, Value.int .i64 qD.po], 4⟩, ⟨g2, 36, [Value.int .i64 0, Value.int .i64 0], 2⟩, ⟨g1, 25, [Value.int .i64 0, Value.int .i64 0] ++ ((List.replicate 32 (0 : Int)).map (Value.int .u8) ++ ((List.replicate 32 (0 : Int)).map (Value.int .u8) ++ ([Value.slice none 0 0]))), 67⟩] ++ (HN ++ HD)) rfl ?_
  iterate 2 refine gx ?_
  refine TC.pr [2, 3, 4, 5] ?_
  iterate 5 refine gx ?_
  refine TL.call0 (Wants.none rfl) rfl enters28 rfl rfl (v := .agg ([Value.int .i64 qD.co, Value.int .i64 qD.po]).toArray) (fun w hs => fault_c gr AN m cN qD.k qD.co qD.po w (hs.has (⟨gr, 87, [Value.slice AN m cN, Value.int .i64 (qD.k : Int), Value.int .i64 qD.co, Value.int .i64 qD.po], 4⟩) (by simp))) ?_
  refine TL.al (fun g5 hg5 => ?_)
  refine TL.storeW (Wants.none rfl) rfl rfl size36 rfl (vs := [Value.int .i64 qD.co, Value.int .i64 qD.po]) rfl (by simp []) (by simp [Value.oneCell']) (i := 0) (ent := ⟨g5, 36, [Value.int .i64 0, Value.int .i64 0], 2⟩) rfl rfl (by simp []) (H' := [⟨g5, 36, [Value.int .i64 qD.co, Value.int .i64 qD.po], 2⟩, ⟨g4, 25, [Value.int .i64 oD, Value.int .i64 nD] ++ (XD.map (Value.int .u8) ++ (YD.map (Value.int .u8) ++ ([Value.slice AD mD cD]))), 67⟩, ⟨g3, 62, [Value.pointer (some ⟨gr, 0, none⟩)], 1⟩, ⟨gr, 87, [Value.slice AN m cN, Value.int .i64 (qD.k : Int), Value.int .i64 qD.co, Value.int .i64 qD.po], 4⟩, ⟨g2, 36, [Value.int .i64 0, Value.int .i64 0], 2⟩, ⟨g1, 25, [Value.int .i64 0, Value.int .i64 0] ++ ((List.replicate 32 (0 : Int)).map (Value.int .u8) ++ ((List.replicate 32 (0 : Int)).map (Value.int .u8) ++ ([Value.slice none 0 0]))), 67⟩] ++ (HN ++ HD)) rfl ?_
  iterate 5 refine gx ?_
  refine TL.gets (Wants.none rfl) rfl (Gets.build rfl (vs := []) rfl (fun w => by first | rfl | kernel_rfl) (v := .agg ([Value.int .i64 0, Value.int .i64 0]).toArray)) ?_
  refine TL.gets (Wants.none rfl) rfl (Gets.isFalse (Gets.pairNe rfl Try.underlying36 (by decide) (by decide) rfl rfl Try.underlying29 Try.underlying3 sih36 geq36 rfl rfl) (fun h => h ⟨hqD.1.trans hco, hqD.2.trans ((rDec_ri B).po0.2 hco).2⟩)) ?_
  iterate 2 refine gx ?_
  refine TC.pr [2, 3, 5, 6, 17] ?_
  refine TC.no rfl ?_
  iterate 4 refine gx ?_
  refine TL.gets (Wants.none rfl) rfl (Gets.loadN rfl agg25 size25 rfl (vs := [Value.int .i64 oD, Value.int .i64 nD] ++ (XD.map (Value.int .u8) ++ (YD.map (Value.int .u8) ++ ([Value.slice AD mD cD])))) (by simp [hXD, hYD]) (Row.all (i := 1) (ent := ⟨g4, 25, [Value.int .i64 oD, Value.int .i64 nD] ++ (XD.map (Value.int .u8) ++ (YD.map (Value.int .u8) ++ ([Value.slice AD mD cD]))), 67⟩) rfl rfl rfl)) ?_
  refine TL.gets (Wants.none rfl) rfl (Gets.build rfl (vs := []) rfl (fun w => by first | rfl | kernel_rfl) (v := .agg ([Value.int .i64 0, Value.int .i64 0]).toArray)) ?_
  refine TL.storeW (Wants.none rfl) rfl rfl size25 rfl (vs := [Value.int .i64 oD, Value.int .i64 nD] ++ (XD.map (Value.int .u8) ++ (YD.map (Value.int .u8) ++ ([Value.slice AD mD cD])))) rfl (by simp [hXD, hYD]) (ones_app (by simp [Value.oneCell']) (ones_app ints_one (ones_app ints_one (by simp [Value.oneCell'])))) (i := 5) (ent := ⟨g1, 25, [Value.int .i64 0, Value.int .i64 0] ++ ((List.replicate 32 (0 : Int)).map (Value.int .u8) ++ ((List.replicate 32 (0 : Int)).map (Value.int .u8) ++ ([Value.slice none 0 0]))), 67⟩) rfl rfl (by simp []) (H' := [⟨g5, 36, [Value.int .i64 qD.co, Value.int .i64 qD.po], 2⟩, ⟨g4, 25, [Value.int .i64 oD, Value.int .i64 nD] ++ (XD.map (Value.int .u8) ++ (YD.map (Value.int .u8) ++ ([Value.slice AD mD cD]))), 67⟩, ⟨g3, 62, [Value.pointer (some ⟨gr, 0, none⟩)], 1⟩, ⟨gr, 87, [Value.slice AN m cN, Value.int .i64 (qD.k : Int), Value.int .i64 qD.co, Value.int .i64 qD.po], 4⟩, ⟨g2, 36, [Value.int .i64 0, Value.int .i64 0], 2⟩, ⟨g1, 25, [Value.int .i64 oD, Value.int .i64 nD] ++ (XD.map (Value.int .u8) ++ (YD.map (Value.int .u8) ++ ([Value.slice AD mD cD]))), 67⟩] ++ (HN ++ HD)) rfl ?_
  refine TL.storeW (Wants.none rfl) rfl rfl size36 rfl (vs := [Value.int .i64 0, Value.int .i64 0]) rfl (by simp []) (by simp [Value.oneCell']) (i := 4) (ent := ⟨g2, 36, [Value.int .i64 0, Value.int .i64 0], 2⟩) rfl rfl (by simp []) (H' := [⟨g5, 36, [Value.int .i64 qD.co, Value.int .i64 qD.po], 2⟩, ⟨g4, 25, [Value.int .i64 oD, Value.int .i64 nD] ++ (XD.map (Value.int .u8) ++ (YD.map (Value.int .u8) ++ ([Value.slice AD mD cD]))), 67⟩, ⟨g3, 62, [Value.pointer (some ⟨gr, 0, none⟩)], 1⟩, ⟨gr, 87, [Value.slice AN m cN, Value.int .i64 (qD.k : Int), Value.int .i64 qD.co, Value.int .i64 qD.po], 4⟩, ⟨g2, 36, [Value.int .i64 0, Value.int .i64 0], 2⟩, ⟨g1, 25, [Value.int .i64 oD, Value.int .i64 nD] ++ (XD.map (Value.int .u8) ++ (YD.map (Value.int .u8) ++ ([Value.slice AD mD cD]))), 67⟩] ++ (HN ++ HD)) rfl ?_
  iterate 3 refine gx ?_
  obtain ⟨ho1, hn1, hX1, hY1, hE1, hm1⟩ := hvD hco
  subst ho1
  subst hn1
  subst hX1
  subst hY1
  have hm2 : mD = (rDec B).Cs.length := by rw [← hE1, List.length_map, hm1]
  subst hm2
  exact TE.ret2CC rfl agg25 size25 agg36 size36 rfl (vs := [Value.int .i64 ((rDec B).o), Value.int .i64 ((rDec B).n)] ++ (((rDec B).h1).map (Value.int .u8) ++ (((rDec B).h2).map (Value.int .u8) ++ ([Value.slice AD (((rDec B).Cs.length)) cD])))) (by simp [hXD, hYD]) (Row.all (i := 5) (ent := ⟨g1, 25, [Value.int .i64 ((rDec B).o), Value.int .i64 ((rDec B).n)] ++ (((rDec B).h1).map (Value.int .u8) ++ (((rDec B).h2).map (Value.int .u8) ++ ([Value.slice AD (((rDec B).Cs.length)) cD]))), 67⟩) rfl rfl rfl) rfl (us := [Value.int .i64 0, Value.int .i64 0]) rfl (Row.all (i := 4) (ent := ⟨g2, 36, [Value.int .i64 0, Value.int .i64 0], 2⟩) rfl rfl rfl) (fun w hs => ⟨AD, cD, ED, HD, rfl, hcD, hoD, hE1, st_dm (A := []) (B := HN) (C := HD) ((((((hs.drop (by assumption)).drop (by assumption)).drop (by assumption)).drop (by assumption)).drop (by assumption)).drop (by assumption)) hFN⟩)
end Go.Proofs.Ytclmgfcdnokaiaa
/-
  alive.
-/
namespace Go.Proofs.Ytclmgfcdnokaiaa
set_option linter.unusedVariables false
set_option linter.unusedSimpArgs false
open Go Go.RowKit
theorem enters10 : Enters Try.prog 10 := ⟨_, Try.func10, by kernel_rfl, by kernel_rfl⟩
theorem enters12 : Enters Try.prog 12 := ⟨_, Try.func12, by kernel_rfl, by kernel_rfl⟩
theorem enters15 : Enters Try.prog 15 := ⟨_, Try.func15, by kernel_rfl, by kernel_rfl⟩
theorem enters17 : Enters Try.prog 17 := ⟨_, Try.func17, by kernel_rfl, by kernel_rfl⟩
theorem encD_ge {o n : Int} {H1 H2 : List Int} {Cs : List CM} (h1 : H1.length = 32) (h2 : H2.length = 32) : 89 ≤ (encD o n H1 H2 Cs).length := by
  unfold encD
  rw [List.length_append, List.length_append, List.length_append, List.length_append, List.length_append, List.length_append, List.length_append, be1_len, be8_len, be8_len, be4_len, h1, h2, show magicB.length = 4 from rfl]
  omega
theorem beV_bytes (x n : Int) : Bytes (beV x n) := by
  intro z hz
  unfold beV beP at hz
  obtain ⟨i, _, rfl⟩ := List.mem_map.1 hz
  simp [IntKind.wrap, IntKind.signed, IntKind.bits]
  omega
theorem cm_bytes {w : World} {o n : Int} {H1 H2 : List Int} {Cs : List CV} (b1 : Bytes H1) (b2 : Bytes H2) (hD : DatC w Cs) : Bytes (encD o n H1 H2 (Cs.map cmC)) := by
  have hb : ∀ (x k : Int), Bytes (beV x k) := fun x k => beV_bytes x k
  have hc : ∀ l : List CV, (∀ x ∈ l, Bytes x.B) → Bytes (encCs (l.map cmC)) := by
    intro l
    induction l with
    | nil => intro _ x hx; cases hx
    | cons y l ih =>
      intro h
      show Bytes (encC (cmC y) ++ encCs (l.map cmC))
      refine Bytes.app ?_ (ih (fun z hz => h z (by simp [hz])))
      unfold encC
      refine Bytes.app (hb _ _) (Bytes.app (hb _ _) ?_)
      split
      · exact Bytes.app (hb _ _) (hb _ _)
      · exact Bytes.app (hb _ _) (h y (by simp))
  unfold encD
  exact Bytes.app magic_bytes (Bytes.app (hb _ _) (Bytes.app (hb _ _) (Bytes.app (hb _ _) (Bytes.app b1 (Bytes.app b2 (Bytes.app (hb _ _) (hc Cs (fun x hx => by obtain ⟨i, hi⟩ := List.mem_iff_getElem?.1 hx; exact (hD i x hi).2))))))))

theorem fdec_enc (o n : Int) (H1 H2 : List Int) (hH1 : H1.length = 32) (hH2 : H2.length = 32) (A : Option Addr) (m c : Nat) (Cs : List CV) (A2 : Option Addr) (c2 : Nat) (w : World) (hs2 : Src w A2 (encD o n H1 H2 (Cs.map cmC)).length .u8 (encD o n H1 H2 (Cs.map cmC))) (hc2 : (encD o n H1 H2 (Cs.map cmC)).length ≤ c2) (hc22 : c2 ≤ 9223372036854775807) (hL : (encD o n H1 H2 (Cs.map cmC)).length ≤ 100000) (hBy : Bytes (encD o n H1 H2 (Cs.map cmC))) (hinv : rDec (encD o n H1 H2 (Cs.map cmC)) = ⟨o, n, H1, H2, Cs.map cmC, ⟨(encD o n H1 H2 (Cs.map cmC)).length, 0, 0⟩⟩) (hm : Cs.length = m) : Calls Try.prog 15 #[.slice A2 (encD o n H1 H2 (Cs.map cmC)).length c2] w fun e w' => ∃ (A' : Option Addr) (c' : Nat) (Es : List CV) (He : List Ent), e = .returned (.tuple #[.agg ([Value.int .i64 o, Value.int .i64 n] ++ (H1.map (Value.int .u8) ++ (H2.map (Value.int .u8) ++ ([Value.slice A' m ((c'))])))).toArray, .agg ([Value.int .i64 0, Value.int .i64 0]).toArray]) ∧ (m ≤ c' ∧ c' ≤ 9223372036854775807) ∧ OwnD w.heap.size A' m Es He ∧ Es.map cmC = Cs.map cmC ∧ St w He w' := by
  have h := fdec_good (encD o n H1 H2 (Cs.map cmC)) A2 _ c2 w hs2 hBy hc2 hc22 hL (by rw [hinv])
  rw [hinv] at h
  dsimp only at h
  rw [List.length_map, hm] at h
  exact h

theorem e0_len : (encD 0 0 (List.replicate 32 (0 : Int)) (List.replicate 32 (0 : Int)) (([] : List CV).map cmC)).length = 89 := by
  have h1 := encD_ge (o := 0) (n := 0) (H1 := List.replicate 32 (0 : Int)) (H2 := List.replicate 32 (0 : Int)) (Cs := ([] : List CV).map cmC) (by simp) (by simp)
  have h2 := encD_len_le (o := 0) (n := 0) (H1 := List.replicate 32 (0 : Int)) (H2 := List.replicate 32 (0 : Int)) (Cs := []) (m := 0) (by simp) (by simp) rfl (fun i x hx => by simp at hx)
  omega
theorem z0 : inR 0 := ⟨by decide, by decide⟩
theorem num0 : NumsC [] := fun i x hx => by simp at hx
theorem dat0 {w : World} : DatC w [] := fun i x hx => by simp at hx
theorem wrong0 : wrongI 0 0 [] = 0 := wrongI_0 (fun i x hx => by simp at hx) ⟨z0, z0⟩ (fun i x hx => by simp at hx)
theorem inv0 : rDec (encD 0 0 (List.replicate 32 (0 : Int)) (List.replicate 32 (0 : Int)) (([] : List CV).map cmC)) = ⟨0, 0, List.replicate 32 (0 : Int), List.replicate 32 (0 : Int), ([] : List CV).map cmC, ⟨(encD 0 0 (List.replicate 32 (0 : Int)) (List.replicate 32 (0 : Int)) (([] : List CV).map cmC)).length, 0, 0⟩⟩ := rDec_inv z0 z0 (by simp) (by simp) (by decide) (fun c hc => by cases hc)
theorem byt0 : Bytes (encD 0 0 (List.replicate 32 (0 : Int)) (List.replicate 32 (0 : Int)) (([] : List CV).map cmC)) := by
  have hr : Bytes (List.replicate 32 (0 : Int)) := fun z hz => by rw [(List.mem_replicate.1 hz).2]; decide
  exact cm_bytes (w := default) hr hr dat0
def grfB : List Int := [71, 82, 70]
theorem grf_dec : (rDec grfB).s.co = 8 ∧ (rDec grfB).s.po = 3 := by decide +kernel
theorem grf_bytes : Bytes grfB := by intro x hx; unfold grfB at hx; simp only [List.mem_cons, List.not_mem_nil, or_false] at hx; omega

theorem fdec0 (A2 : Option Addr) (c2 : Nat) (w : World) (hs2 : Src w A2 (encD 0 0 (List.replicate 32 (0 : Int)) (List.replicate 32 (0 : Int)) (([] : List CV).map cmC)).length .u8 (encD 0 0 (List.replicate 32 (0 : Int)) (List.replicate 32 (0 : Int)) (([] : List CV).map cmC))) (hc2 : (encD 0 0 (List.replicate 32 (0 : Int)) (List.replicate 32 (0 : Int)) (([] : List CV).map cmC)).length ≤ c2) (hc22 : c2 ≤ 9223372036854775807) : Calls Try.prog 15 #[.slice A2 (encD 0 0 (List.replicate 32 (0 : Int)) (List.replicate 32 (0 : Int)) (([] : List CV).map cmC)).length c2] w fun e w' => ∃ y : Option Addr × Nat, e = .returned (.tuple #[.agg ([Value.int .i64 0, Value.int .i64 0] ++ ((List.replicate 32 (0 : Int)).map (Value.int .u8) ++ ((List.replicate 32 (0 : Int)).map (Value.int .u8) ++ ([Value.slice y.1 0 y.2])))).toArray, .agg ([Value.int .i64 0, Value.int .i64 0]).toArray]) ∧ y.2 ≤ 9223372036854775807 ∧ St w [] w' :=
  (fdec_enc 0 0 (List.replicate 32 (0 : Int)) (List.replicate 32 (0 : Int)) (by simp) (by simp) none 0 0 [] A2 c2 w hs2 hc2 hc22 (by have := e0_len; omega) byt0 inv0 rfl).mono fun e w' h => by
    obtain ⟨A', c', Es, He, he, hc, ho, hE, hw⟩ := h
    exact ⟨(A', c'), he, hc.2, St.left (H := []) hw ho.1⟩

set_option maxRecDepth 100000 in
set_option maxHeartbeats 2000000 in
theorem alive_c (w : World) : Calls Try.prog 9 #[] w fun e w' => e = .returned (.bool true) ∧ St w [] w' := by
  have he0 := e0_len
  refine calls_from (args := []) Try.func9 rfl Try.ntmps9 (by simp) ?_
  refine TC.pr [] ?_
  iterate 7 refine gx ?_
  refine TL.gets (Wants.none rfl) rfl (Gets.build rfl (vs := []) rfl (fun w => by first | rfl | kernel_rfl) (v := .agg ([Value.int .i64 0, Value.int .i64 0] ++ ((List.replicate 32 (0 : Int)).map (Value.int .u8) ++ ((List.replicate 32 (0 : Int)).map (Value.int .u8) ++ ([Value.slice none 0 0])))).toArray)) ?_
  refine TL.call (ι := Value × List Ent) (V := fun y => .tuple #[y.1, .int .i64 0]) (R := fun y => Own w.heap.size 5 .u8 y.1 (encD 0 0 (List.replicate 32 (0 : Int)) (List.replicate 32 (0 : Int)) (([] : List CV).map cmC)) y.2) (H' := fun y => [] ++ y.2) (Wants.none rfl) rfl enters10 rfl rfl (fun w hs => (fenc_yes 0 0 (List.replicate 32 (0 : Int)) (List.replicate 32 (0 : Int)) (by simp) (by simp) none 0 0 [] (by omega) (by omega) num0 (by omega) w ⟨rfl, .inl rfl⟩ dat0 wrong0).mono fun e w' ⟨v, He, he, ho, hw⟩ => ⟨(v, He), he, own_mono ho hs.size, st_call hs hw ho.new⟩) (fun y hR => ?_)
  obtain ⟨vE, HE⟩ := y
  dsimp only at hR ⊢
  have hE : Own w.heap.size 5 .u8 vE (encD 0 0 (List.replicate 32 (0 : Int)) (List.replicate 32 (0 : Int)) (([] : List CV).map cmC)) HE := hR
  obtain ⟨AE, cE, rfl, hcE, hdE⟩ := hE.form
  iterate 10 refine gx ?_
  refine TL.call (ι := Option Addr × Nat) (V := fun yd => .tuple #[.agg ([Value.int .i64 0, Value.int .i64 0] ++ ((List.replicate 32 (0 : Int)).map (Value.int .u8) ++ ((List.replicate 32 (0 : Int)).map (Value.int .u8) ++ ([Value.slice yd.1 0 yd.2])))).toArray, .agg ([Value.int .i64 0, Value.int .i64 0]).toArray]) (R := fun yd => yd.2 ≤ 9223372036854775807) (H' := fun _ => [] ++ HE) (Wants.none rfl) rfl enters15 rfl rfl (fun w hs => (fdec0 AE cE w (hE.srcOf (fun e he => hs.has e (by simp [he]))) hcE hdE).mono fun e w' ⟨y, he, hR, hw⟩ => ⟨y, he, hR, hs.call' hw⟩) (fun yd hyd => ?_)
  iterate 3 refine gx ?_
  refine TL.alloc (Wants.none rfl) rfl rfl zero25 (cs := [Value.int .i64 0, Value.int .i64 0, Value.int .u8 0, Value.int .u8 0, Value.int .u8 0, Value.int .u8 0, Value.int .u8 0, Value.int .u8 0, Value.int .u8 0, Value.int .u8 0, Value.int .u8 0, Value.int .u8 0, Value.int .u8 0, Value.int .u8 0, Value.int .u8 0, Value.int .u8 0, Value.int .u8 0, Value.int .u8 0, Value.int .u8 0, Value.int .u8 0, Value.int .u8 0, Value.int .u8 0, Value.int .u8 0, Value.int .u8 0, Value.int .u8 0, Value.int .u8 0, Value.int .u8 0, Value.int .u8 0, Value.int .u8 0, Value.int .u8 0, Value.int .u8 0, Value.int .u8 0, Value.int .u8 0, Value.int .u8 0, Value.int .u8 0, Value.int .u8 0, Value.int .u8 0, Value.int .u8 0, Value.int .u8 0, Value.int .u8 0, Value.int .u8 0, Value.int .u8 0, Value.int .u8 0, Value.int .u8 0, Value.int .u8 0, Value.int .u8 0, Value.int .u8 0, Value.int .u8 0, Value.int .u8 0, Value.int .u8 0, Value.int .u8 0, Value.int .u8 0, Value.int .u8 0, Value.int .u8 0, Value.int .u8 0, Value.int .u8 0, Value.int .u8 0, Value.int .u8 0, Value.int .u8 0, Value.int .u8 0, Value.int .u8 0, Value.int .u8 0, Value.int .u8 0, Value.int .u8 0, Value.int .u8 0, Value.int .u8 0, Value.slice none 0 0]) rfl (tot := 67) (by simp) (fun g1 hg1 => ?_)
  refine TL.al (fun g2 hg2 => ?_)
  refine TL.storeW (Wants.none rfl) rfl rfl size25 rfl (vs := [Value.int .i64 0, Value.int .i64 0] ++ ((List.replicate 32 (0 : Int)).map (Value.int .u8) ++ ((List.replicate 32 (0 : Int)).map (Value.int .u8) ++ ([Value.slice yd.1 0 yd.2])))) rfl (by simp []) (ones_app (by simp [Value.oneCell']) (ones_app ints_one (ones_app ints_one (by simp [Value.oneCell'])))) (i := 1) (ent := ⟨g1, 25, [Value.int .i64 0, Value.int .i64 0, Value.int .u8 0, Value.int .u8 0, Value.int .u8 0, Value.int .u8 0, Value.int .u8 0, Value.int .u8 0, Value.int .u8 0, Value.int .u8 0, Value.int .u8 0, Value.int .u8 0, Value.int .u8 0, Value.int .u8 0, Value.int .u8 0, Value.int .u8 0, Value.int .u8 0, Value.int .u8 0, Value.int .u8 0, Value.int .u8 0, Value.int .u8 0, Value.int .u8 0, Value.int .u8 0, Value.int .u8 0, Value.int .u8 0, Value.int .u8 0, Value.int .u8 0, Value.int .u8 0, Value.int .u8 0, Value.int .u8 0, Value.int .u8 0, Value.int .u8 0, Value.int .u8 0, Value.int .u8 0, Value.int .u8 0, Value.int .u8 0, Value.int .u8 0, Value.int .u8 0, Value.int .u8 0, Value.int .u8 0, Value.int .u8 0, Value.int .u8 0, Value.int .u8 0, Value.int .u8 0, Value.int .u8 0, Value.int .u8 0, Value.int .u8 0, Value.int .u8 0, Value.int .u8 0, Value.int .u8 0, Value.int .u8 0, Value.int .u8 0, Value.int .u8 0, Value.int .u8 0, Value.int .u8 0, Value.int .u8 0, Value.int .u8 0, Value.int .u8 0, Value.int .u8 0, Value.int .u8 0, Value.int .u8 0, Value.int .u8 0, Value.int .u8 0, Value.int .u8 0, Value.int .u8 0, Value.int .u8 0, Value.slice none 0 0], 67⟩) rfl rfl (by simp []) (H' := [⟨g2, 36, [Value.int .i64 0, Value.int .i64 0], 2⟩, ⟨g1, 25, [Value.int .i64 0, Value.int .i64 0] ++ ((List.replicate 32 (0 : Int)).map (Value.int .u8) ++ ((List.replicate 32 (0 : Int)).map (Value.int .u8) ++ ([Value.slice yd.1 0 yd.2]))), 67⟩] ++ HE) rfl ?_
  refine TL.storeW (Wants.none rfl) rfl rfl size36 rfl (vs := [Value.int .i64 0, Value.int .i64 0]) rfl (by simp []) (by simp [Value.oneCell']) (i := 0) (ent := ⟨g2, 36, [Value.int .i64 0, Value.int .i64 0], 2⟩) rfl rfl (by simp []) (H' := [⟨g2, 36, [Value.int .i64 0, Value.int .i64 0], 2⟩, ⟨g1, 25, [Value.int .i64 0, Value.int .i64 0] ++ ((List.replicate 32 (0 : Int)).map (Value.int .u8) ++ ((List.replicate 32 (0 : Int)).map (Value.int .u8) ++ ([Value.slice yd.1 0 yd.2]))), 67⟩] ++ HE) rfl ?_
  iterate 2 refine gx ?_
  refine TC.pr [0, 1, 2, 3, 4] ?_
  refine gx ?_
  refine TC.heap (H' := [Ent.mk g2 36 ([Value.int .i64 0, Value.int .i64 0]) 2, Ent.mk g1 25 ([Value.int .i64 0, Value.int .i64 0] ++ ((List.replicate 32 (0 : Int)).map (Value.int .u8) ++ ((List.replicate 32 (0 : Int)).map (Value.int .u8) ++ ([Value.slice yd.1 0 yd.2])))) 67]) (fun w h => St.left h hE.fr7) ?_
  refine gx ?_
  refine TL.buildSlice (Wants.none rfl) rfl rfl Try.underlying28 size5 zero5 rfl (by decide) (by decide) (cells := #[.int .u8 71, .int .u8 82, .int .u8 70]) (tot := 3) (by kernel_rfl) (cs := [.int .u8 71, .int .u8 82, .int .u8 70]) rfl rfl (fun g3 hg3 => ?_)
  refine TL.mark2 (Wants.none rfl) rfl rfl Try.underlying28 Try.underlying5 rfl (i := 0) (ent := ⟨g3, 5, [Value.int .u8 71, Value.int .u8 82, Value.int .u8 70], 3⟩) rfl rfl (W := grfB) rfl (by omega) (fun w1 hap hw1 hrw hgw => ?_)
  have hw1' : St w [⟨g2, 36, [Value.int .i64 0, Value.int .i64 0], 2⟩, ⟨g1, 25, [Value.int .i64 0, Value.int .i64 0] ++ ((List.replicate 32 (0 : Int)).map (Value.int .u8) ++ ((List.replicate 32 (0 : Int)).map (Value.int .u8) ++ ([Value.slice yd.1 0 yd.2]))), 67⟩] w1 := hw1
  have hM : Src w1 (some ⟨g3, 0, none⟩) 3 .u8 grfB := ⟨rfl, .inr ⟨g3, 0, rfl, hgw, hrw⟩⟩
  refine TL.call0 (Wants.none rfl) rfl enters15 rfl rfl (v := .tuple #[.agg ([Value.int .i64 0, Value.int .i64 0] ++ ((List.replicate 32 (0 : Int)).map (Value.int .u8) ++ ((List.replicate 32 (0 : Int)).map (Value.int .u8) ++ ([Value.slice none 0 0])))).toArray, .agg ([Value.int .i64 8, Value.int .i64 3]).toArray]) (fun w hs => (fdec_bad grfB (some ⟨g3, 0, none⟩) 3 3 w (hM.at_ hs (fun b hb => ne_nil)) grf_bytes (by omega) (by omega) (by omega) (by rw [grf_dec.1]; decide)).mono fun e w' h => by rw [grf_dec.1, grf_dec.2] at h; exact h) ?_
  have l1 := hw1'.has (⟨g2, 36, [Value.int .i64 0, Value.int .i64 0], 2⟩) (by simp)
  have l2 := hw1'.has (⟨g1, 25, [Value.int .i64 0, Value.int .i64 0] ++ ((List.replicate 32 (0 : Int)).map (Value.int .u8) ++ ((List.replicate 32 (0 : Int)).map (Value.int .u8) ++ ([Value.slice yd.1 0 yd.2]))), 67⟩) (by simp)
  have hn12 : g2 ≠ g1 := pairwise_ne hw1'.apart (i := 0) (j := 1) rfl rfl (by decide)
  refine TL.heap (H' := [⟨g2, 36, [Value.int .i64 0, Value.int .i64 0], 2⟩, ⟨g1, 25, [Value.int .i64 0, Value.int .i64 0] ++ ((List.replicate 32 (0 : Int)).map (Value.int .u8) ++ ((List.replicate 32 (0 : Int)).map (Value.int .u8) ++ ([Value.slice yd.1 0 yd.2]))), 67⟩]) (fun w h => (h.take l2 ne_nil).take l1 (ne_cons (fun h => hn12 h.symm) ne_nil)) ?_
  refine TL.rebase2 hw1' rfl ?_
  refine TL.gets (Wants.none rfl) rfl (Gets.move rfl rfl) ?_
  iterate 2 refine gx ?_
  refine TL.alloc (Wants.none rfl) rfl rfl zero25 (cs := [Value.int .i64 0, Value.int .i64 0, Value.int .u8 0, Value.int .u8 0, Value.int .u8 0, Value.int .u8 0, Value.int .u8 0, Value.int .u8 0, Value.int .u8 0, Value.int .u8 0, Value.int .u8 0, Value.int .u8 0, Value.int .u8 0, Value.int .u8 0, Value.int .u8 0, Value.int .u8 0, Value.int .u8 0, Value.int .u8 0, Value.int .u8 0, Value.int .u8 0, Value.int .u8 0, Value.int .u8 0, Value.int .u8 0, Value.int .u8 0, Value.int .u8 0, Value.int .u8 0, Value.int .u8 0, Value.int .u8 0, Value.int .u8 0, Value.int .u8 0, Value.int .u8 0, Value.int .u8 0, Value.int .u8 0, Value.int .u8 0, Value.int .u8 0, Value.int .u8 0, Value.int .u8 0, Value.int .u8 0, Value.int .u8 0, Value.int .u8 0, Value.int .u8 0, Value.int .u8 0, Value.int .u8 0, Value.int .u8 0, Value.int .u8 0, Value.int .u8 0, Value.int .u8 0, Value.int .u8 0, Value.int .u8 0, Value.int .u8 0, Value.int .u8 0, Value.int .u8 0, Value.int .u8 0, Value.int .u8 0, Value.int .u8 0, Value.int .u8 0, Value.int .u8 0, Value.int .u8 0, Value.int .u8 0, Value.int .u8 0, Value.int .u8 0, Value.int .u8 0, Value.int .u8 0, Value.int .u8 0, Value.int .u8 0, Value.int .u8 0, Value.slice none 0 0]) rfl (tot := 67) (by simp) (fun g4 hg4 => ?_)
  refine TL.al (fun g5 hg5 => ?_)
  refine TL.storeW (Wants.none rfl) rfl rfl size25 rfl (vs := [Value.int .i64 0, Value.int .i64 0] ++ ((List.replicate 32 (0 : Int)).map (Value.int .u8) ++ ((List.replicate 32 (0 : Int)).map (Value.int .u8) ++ ([Value.slice none 0 0])))) rfl (by simp []) (ones_app (by simp [Value.oneCell']) (ones_app ints_one (ones_app ints_one (by simp [Value.oneCell'])))) (i := 1) (ent := ⟨g4, 25, [Value.int .i64 0, Value.int .i64 0, Value.int .u8 0, Value.int .u8 0, Value.int .u8 0, Value.int .u8 0, Value.int .u8 0, Value.int .u8 0, Value.int .u8 0, Value.int .u8 0, Value.int .u8 0, Value.int .u8 0, Value.int .u8 0, Value.int .u8 0, Value.int .u8 0, Value.int .u8 0, Value.int .u8 0, Value.int .u8 0, Value.int .u8 0, Value.int .u8 0, Value.int .u8 0, Value.int .u8 0, Value.int .u8 0, Value.int .u8 0, Value.int .u8 0, Value.int .u8 0, Value.int .u8 0, Value.int .u8 0, Value.int .u8 0, Value.int .u8 0, Value.int .u8 0, Value.int .u8 0, Value.int .u8 0, Value.int .u8 0, Value.int .u8 0, Value.int .u8 0, Value.int .u8 0, Value.int .u8 0, Value.int .u8 0, Value.int .u8 0, Value.int .u8 0, Value.int .u8 0, Value.int .u8 0, Value.int .u8 0, Value.int .u8 0, Value.int .u8 0, Value.int .u8 0, Value.int .u8 0, Value.int .u8 0, Value.int .u8 0, Value.int .u8 0, Value.int .u8 0, Value.int .u8 0, Value.int .u8 0, Value.int .u8 0, Value.int .u8 0, Value.int .u8 0, Value.int .u8 0, Value.int .u8 0, Value.int .u8 0, Value.int .u8 0, Value.int .u8 0, Value.int .u8 0, Value.int .u8 0, Value.int .u8 0, Value.int .u8 0, Value.slice none 0 0], 67⟩) rfl rfl (by simp []) (H' := [⟨g5, 36, [Value.int .i64 0, Value.int .i64 0], 2⟩, ⟨g4, 25, [Value.int .i64 0, Value.int .i64 0] ++ ((List.replicate 32 (0 : Int)).map (Value.int .u8) ++ ((List.replicate 32 (0 : Int)).map (Value.int .u8) ++ ([Value.slice none 0 0]))), 67⟩, ⟨g2, 36, [Value.int .i64 0, Value.int .i64 0], 2⟩, ⟨g1, 25, [Value.int .i64 0, Value.int .i64 0] ++ ((List.replicate 32 (0 : Int)).map (Value.int .u8) ++ ((List.replicate 32 (0 : Int)).map (Value.int .u8) ++ ([Value.slice yd.1 0 yd.2]))), 67⟩]) rfl ?_
  iterate 3 refine gx ?_
  refine TC.pr [0, 1, 2, 3, 4, 6] ?_
  iterate 4 refine gx ?_
  refine TL.gets (Wants.none rfl) rfl (Gets.isTrue (Gets.eql rfl rfl rfl) (by omega)) ?_
  iterate 2 refine gx ?_
  refine TL.gets (Wants.yes rfl rfl rfl) rfl (Gets.isTrue (Gets.eql rfl rfl rfl) rfl) ?_
  iterate 2 refine gx ?_
  refine TL.gets (Wants.yes rfl rfl rfl) rfl (Gets.loadN rfl agg25 size25 rfl (vs := [Value.int .i64 0, Value.int .i64 0] ++ ((List.replicate 32 (0 : Int)).map (Value.int .u8) ++ ((List.replicate 32 (0 : Int)).map (Value.int .u8) ++ ([Value.slice yd.1 0 yd.2])))) (by simp []) (Row.all (i := 3) (ent := ⟨g1, 25, [Value.int .i64 0, Value.int .i64 0] ++ ((List.replicate 32 (0 : Int)).map (Value.int .u8) ++ ((List.replicate 32 (0 : Int)).map (Value.int .u8) ++ ([Value.slice yd.1 0 yd.2]))), 67⟩) rfl rfl rfl)) ?_
  refine TL.gets (Wants.yes rfl rfl rfl) rfl (Gets.build rfl (vs := []) rfl (fun w => by first | rfl | kernel_rfl) (v := .agg ([Value.int .i64 0, Value.int .i64 0] ++ ((List.replicate 32 (0 : Int)).map (Value.int .u8) ++ ((List.replicate 32 (0 : Int)).map (Value.int .u8) ++ ([Value.slice none 0 0])))).toArray)) ?_
  refine TL.call0 (Wants.yes rfl rfl rfl) rfl enters17 rfl rfl (v := .bool true) (fun w hs => (rdsame_c 0 0 (List.replicate 32 (0 : Int)) (List.replicate 32 (0 : Int)) (by simp) (by simp) yd.1 0 yd.2 [] 0 0 (List.replicate 32 (0 : Int)) (List.replicate 32 (0 : Int)) (by simp) (by simp) none 0 0 [] (by omega) (by omega) num0 w ⟨rfl, .inl rfl⟩ ⟨rfl, .inl rfl⟩ dat0 dat0).mono fun e w' h => by rw [decide_eq_true (p := sameD _ _ _ _ _ _ _ _ _ _) ⟨rfl, rfl, rfl, rfl, rfl⟩] at h; exact h) ?_
  iterate 3 refine gx ?_
  refine TL.gets (Wants.yes rfl rfl rfl) rfl (Gets.build rfl (vs := []) rfl (fun w => by first | rfl | kernel_rfl) (v := .agg ([Value.int .i64 0, Value.int .i64 0]).toArray)) ?_
  refine TL.gets (Wants.yes rfl rfl rfl) rfl (Gets.isTrue (Gets.pairEq rfl Try.underlying36 (by decide) (by decide) rfl rfl Try.underlying29 Try.underlying3 sih36 geq36 rfl rfl) ⟨rfl, rfl⟩) ?_
  iterate 3 refine gx ?_
  refine TL.gets (Wants.yes rfl rfl rfl) rfl (Gets.build rfl (vs := [(0, Value.int .i64 8), (1, Value.int .i64 3)]) rfl (fun w => by first | rfl | kernel_rfl) (v := .agg ([Value.int .i64 8, Value.int .i64 3]).toArray)) ?_
  refine TL.gets (Wants.yes rfl rfl rfl) rfl (Gets.isTrue (Gets.pairEq rfl Try.underlying36 (by decide) (by decide) rfl rfl Try.underlying29 Try.underlying3 sih36 geq36 rfl rfl) ⟨rfl, rfl⟩) ?_
  iterate 2 refine gx ?_
  refine TL.gets (Wants.yes rfl rfl rfl) rfl (Gets.build rfl (vs := []) rfl (fun w => by first | rfl | kernel_rfl) (v := .agg ([Value.int .i64 0, Value.int .i64 0] ++ ((List.replicate 32 (0 : Int)).map (Value.int .u8) ++ ((List.replicate 32 (0 : Int)).map (Value.int .u8) ++ ([Value.slice none 0 0])))).toArray)) ?_
  refine TL.call0 (Wants.yes rfl rfl rfl) rfl enters12 rfl rfl (v := .int .i64 (sizeI 0 0 (List.replicate 32 (0 : Int)) (List.replicate 32 (0 : Int)) [])) (fun w hs => fsize_c 0 0 (List.replicate 32 (0 : Int)) (List.replicate 32 (0 : Int)) (by simp) (by simp) none 0 0 [] (by omega) (by omega) num0 (by omega) w ⟨rfl, .inl rfl⟩ dat0) ?_
  refine TL.gets (Wants.yes rfl rfl rfl) rfl (Gets.isTrue (Gets.eql rfl rfl rfl) (by rw [sizeI_len wrong0]; omega)) ?_
  iterate 5 refine gx ?_
  exact TE.ret1 rfl rfl (fun w hs => ⟨rfl, St.left (H := []) hs (Fresh.cons (by assumption) (Fresh.cons (by assumption) (Fresh.cons (by assumption) (Fresh.cons (by assumption) Fresh.nil))))⟩)
end Go.Proofs.Ytclmgfcdnokaiaa
/-
  FormatEncodes: the walk.
-/
namespace Go.Proofs.Ytclmgfcdnokaiaa
set_option linter.unusedVariables false
set_option linter.unusedSimpArgs false
open Go Go.RowKit
theorem enters13 : Enters Try.prog 13 := ⟨_, Try.func13, by kernel_rfl, by kernel_rfl⟩
theorem enters9 : Enters Try.prog 9 := ⟨_, Try.func9, by kernel_rfl, by kernel_rfl⟩
end Go.Proofs.Ytclmgfcdnokaiaa
/-
  FormatCuts: the walk.
-/
namespace Go.Proofs.Ytclmgfcdnokaiaa
set_option linter.unusedVariables false
set_option linter.unusedSimpArgs false
open Go Go.RowKit

end Go.Proofs.Ytclmgfcdnokaiaa
/-
  FormatDecodes: the walk.
-/
namespace Go.Proofs.Ytclmgfcdnokaiaa
set_option linter.unusedVariables false
set_option linter.unusedSimpArgs false
open Go Go.RowKit
theorem size29 : (Try.prog.info? 29).map (·.size) = some 1 := by kernel_rfl
instance : AgN Try.prog 29 := ⟨agg29⟩
instance : Fld Try.prog 36 0 0 := ⟨⟨_, _, _, Try.underlying36, rfl, size29, rfl⟩⟩
instance : Fld Try.prog 36 1 1 := ⟨⟨_, _, _, Try.underlying36, rfl, size3, rfl⟩⟩
end Go.Proofs.Ytclmgfcdnokaiaa
/-
  FormatOnce: the walk.
-/
namespace Go.Proofs.Ytclmgfcdnokaiaa
set_option linter.unusedVariables false
set_option linter.unusedSimpArgs false
open Go Go.RowKit

theorem wrongI_of {w : World} {o n : Int} {Cs : List CV} (ho : inR o) (hn : inR n) (hc : ∀ c ∈ Cs.map cmC, okC c) (hD : DatC w Cs) : wrongI o n Cs = 0 := by
  refine wrongI_0 (fun i x hx => ?_) ⟨ho, hn⟩ (fun i x hx => ?_)
  · have h := hc (cmC x) (List.mem_map_of_mem (List.mem_of_getElem? hx))
    rcases h.2 with h | h
    · exact .inl h.1
    · exact .inr h.1
  · have h := hc (cmC x) (List.mem_map_of_mem (List.mem_of_getElem? hx))
    have hl := (hD i x hx).1.1
    obtain ⟨h1, h2⟩ := h
    have z0 : inR 0 := ⟨by decide, by decide⟩
    rcases h2 with ⟨a1, a2, a3, a4⟩ | ⟨a1, a2, a3⟩
    · have a4' : x.B = [] := a4
      exact ⟨h1, a2, a3, fun hh => by rw [a4'] at hl; have := hh.2; simp at hl; omega, fun hh => by have e : x.k = 1 := a1; have := hh.1; omega⟩
    · have e1 : x.f = 0 := a2
      have e2 : x.l = 0 := a3
      exact ⟨h1, by rw [e1]; exact z0, by rw [e2]; exact z0, fun hh => by have e : x.k = 2 := a1; have := hh.1; omega, fun hh => by rcases hh.2 with h | h; exact h e1; exact h e2⟩

set_option maxRecDepth 100000 in
set_option maxHeartbeats 2000000 in
theorem fonce_long (A : Option Addr) (m c : Nat) (B : List Int) (hmc : m ≤ c) (hcm : c ≤ 9223372036854775807) (w : World) (hsB : Src w A m .u8 B) (hBB : Bytes B) (hl : 2000 < m) : Calls Try.prog 6 #[.slice A m c] w fun e w' => e = .returned (.bool true) ∧ St w [] w' := by
  refine calls_from (args := [.slice A m c]) Try.func6 rfl Try.ntmps6 (by simp) ?_
  refine TC.pr [0] ?_
  iterate 10 refine gx ?_
  refine TL.gets (Wants.none rfl) rfl (Gets.isTrue (Gets.gtr rfl rfl rfl) (by omega)) ?_
  iterate 2 refine gx ?_
  refine TC.yes rfl ?_
  iterate 2 refine gx ?_
  refine TL.call0 (Wants.none rfl) rfl enters9 rfl rfl (v := .bool true) (fun w hs => alive_c w) ?_
  iterate 5 refine gx ?_
  exact TE.ret1 rfl rfl (fun w hs => ⟨rfl, hs⟩)

set_option maxRecDepth 100000 in
set_option maxHeartbeats 2000000 in
theorem fonce_bad (A : Option Addr) (m c : Nat) (B : List Int) (hmc : m ≤ c) (hcm : c ≤ 9223372036854775807) (w : World) (hsB : Src w A m .u8 B) (hBB : Bytes B) (hl : m ≤ 2000) (hco : (rDec B).s.co ≠ 0) : Calls Try.prog 6 #[.slice A m c] w fun e w' => e = .returned (.bool true) ∧ St w [] w' := by
  have hBm := hsB.1
  have hpo : 0 ≤ (rDec B).s.po ∧ (rDec B).s.po ≤ (m : Int) := by have h := (rDec_ri B).2.resolve_left (fun h => hco h.1); omega
  refine calls_from (args := [.slice A m c]) Try.func6 rfl Try.ntmps6 (by simp) ?_
  refine TC.pr [0] ?_
  iterate 10 refine gx ?_
  refine TL.gets (Wants.none rfl) rfl (Gets.isFalse (Gets.gtr rfl rfl rfl) (by omega)) ?_
  iterate 2 refine gx ?_
  refine TC.no rfl ?_
  iterate 5 refine gx ?_
  refine TL.call0 (Wants.none rfl) rfl enters15 rfl rfl (v := .tuple #[.agg ([Value.int .i64 0, Value.int .i64 0] ++ ((List.replicate 32 (0 : Int)).map (Value.int .u8) ++ ((List.replicate 32 (0 : Int)).map (Value.int .u8) ++ ([Value.slice none 0 0])))).toArray, .agg ([Value.int .i64 ((rDec B).s.co), Value.int .i64 ((rDec B).s.po)]).toArray]) (fun w hs => fdec_bad B A m c w (hsB.at_ hs (fun b hb => ne_nil)) hBB (by omega) (by omega) (by omega) hco) ?_
  iterate 3 refine gx ?_
  refine TL.alloc (Wants.none rfl) rfl rfl zero25 (cs := [Value.int .i64 0, Value.int .i64 0, Value.int .u8 0, Value.int .u8 0, Value.int .u8 0, Value.int .u8 0, Value.int .u8 0, Value.int .u8 0, Value.int .u8 0, Value.int .u8 0, Value.int .u8 0, Value.int .u8 0, Value.int .u8 0, Value.int .u8 0, Value.int .u8 0, Value.int .u8 0, Value.int .u8 0, Value.int .u8 0, Value.int .u8 0, Value.int .u8 0, Value.int .u8 0, Value.int .u8 0, Value.int .u8 0, Value.int .u8 0, Value.int .u8 0, Value.int .u8 0, Value.int .u8 0, Value.int .u8 0, Value.int .u8 0, Value.int .u8 0, Value.int .u8 0, Value.int .u8 0, Value.int .u8 0, Value.int .u8 0, Value.int .u8 0, Value.int .u8 0, Value.int .u8 0, Value.int .u8 0, Value.int .u8 0, Value.int .u8 0, Value.int .u8 0, Value.int .u8 0, Value.int .u8 0, Value.int .u8 0, Value.int .u8 0, Value.int .u8 0, Value.int .u8 0, Value.int .u8 0, Value.int .u8 0, Value.int .u8 0, Value.int .u8 0, Value.int .u8 0, Value.int .u8 0, Value.int .u8 0, Value.int .u8 0, Value.int .u8 0, Value.int .u8 0, Value.int .u8 0, Value.int .u8 0, Value.int .u8 0, Value.int .u8 0, Value.int .u8 0, Value.int .u8 0, Value.int .u8 0, Value.int .u8 0, Value.int .u8 0, Value.slice none 0 0]) rfl (tot := 67) (by simp) (fun g1 hg1 => ?_)
  refine TL.al (fun g2 hg2 => ?_)
  refine TL.storeW (Wants.none rfl) rfl rfl size25 rfl (vs := [Value.int .i64 0, Value.int .i64 0] ++ ((List.replicate 32 (0 : Int)).map (Value.int .u8) ++ ((List.replicate 32 (0 : Int)).map (Value.int .u8) ++ ([Value.slice none 0 0])))) rfl (by simp []) (ones_app (by simp [Value.oneCell']) (ones_app ints_one (ones_app ints_one (by simp [Value.oneCell'])))) (i := 1) (ent := ⟨g1, 25, [Value.int .i64 0, Value.int .i64 0, Value.int .u8 0, Value.int .u8 0, Value.int .u8 0, Value.int .u8 0, Value.int .u8 0, Value.int .u8 0, Value.int .u8 0, Value.int .u8 0, Value.int .u8 0, Value.int .u8 0, Value.int .u8 0, Value.int .u8 0, Value.int .u8 0, Value.int .u8 0, Value.int .u8 0, Value.int .u8 0, Value.int .u8 0, Value.int .u8 0, Value.int .u8 0, Value.int .u8 0, Value.int .u8 0, Value.int .u8 0, Value.int .u8 0, Value.int .u8 0, Value.int .u8 0, Value.int .u8 0, Value.int .u8 0, Value.int .u8 0, Value.int .u8 0, Value.int .u8 0, Value.int .u8 0, Value.int .u8 0, Value.int .u8 0, Value.int .u8 0, Value.int .u8 0, Value.int .u8 0, Value.int .u8 0, Value.int .u8 0, Value.int .u8 0, Value.int .u8 0, Value.int .u8 0, Value.int .u8 0, Value.int .u8 0, Value.int .u8 0, Value.int .u8 0, Value.int .u8 0, Value.int .u8 0, Value.int .u8 0, Value.int .u8 0, Value.int .u8 0, Value.int .u8 0, Value.int .u8 0, Value.int .u8 0, Value.int .u8 0, Value.int .u8 0, Value.int .u8 0, Value.int .u8 0, Value.int .u8 0, Value.int .u8 0, Value.int .u8 0, Value.int .u8 0, Value.int .u8 0, Value.int .u8 0, Value.int .u8 0, Value.slice none 0 0], 67⟩) rfl rfl (by simp []) (H' := [⟨g2, 36, [Value.int .i64 0, Value.int .i64 0], 2⟩, ⟨g1, 25, [Value.int .i64 0, Value.int .i64 0] ++ ((List.replicate 32 (0 : Int)).map (Value.int .u8) ++ ((List.replicate 32 (0 : Int)).map (Value.int .u8) ++ ([Value.slice none 0 0]))), 67⟩]) rfl ?_
  iterate 3 refine gx ?_
  refine TC.pr [0, 2, 3, 4] ?_
  iterate 4 refine gx ?_
  refine TL.gets (Wants.none rfl) rfl (Gets.build rfl (vs := []) rfl (fun w => by first | rfl | kernel_rfl) (v := .agg ([Value.int .i64 0, Value.int .i64 0]).toArray)) ?_
  refine TL.gets (Wants.none rfl) rfl (Gets.isTrue (Gets.pairNe rfl Try.underlying36 (by decide) (by decide) rfl rfl Try.underlying29 Try.underlying3 sih36 geq36 rfl rfl) (fun h => hco h.1)) ?_
  iterate 2 refine gx ?_
  refine TC.yes rfl ?_
  iterate 2 refine gx ?_
  refine TL.call0 (Wants.none rfl) rfl enters9 rfl rfl (v := .bool true) (fun w hs => alive_c w) ?_
  refine gx ?_
  refine TL.gets (Wants.yes rfl rfl rfl) rfl (Gets.loadN rfl agg25 size25 rfl (vs := [Value.int .i64 0, Value.int .i64 0] ++ ((List.replicate 32 (0 : Int)).map (Value.int .u8) ++ ((List.replicate 32 (0 : Int)).map (Value.int .u8) ++ ([Value.slice none 0 0])))) (by simp []) (Row.all (i := 1) (ent := ⟨g1, 25, [Value.int .i64 0, Value.int .i64 0] ++ ((List.replicate 32 (0 : Int)).map (Value.int .u8) ++ ((List.replicate 32 (0 : Int)).map (Value.int .u8) ++ ([Value.slice none 0 0]))), 67⟩) rfl rfl rfl)) ?_
  refine TL.gets (Wants.yes rfl rfl rfl) rfl (Gets.build rfl (vs := []) rfl (fun w => by first | rfl | kernel_rfl) (v := .agg ([Value.int .i64 0, Value.int .i64 0] ++ ((List.replicate 32 (0 : Int)).map (Value.int .u8) ++ ((List.replicate 32 (0 : Int)).map (Value.int .u8) ++ ([Value.slice none 0 0])))).toArray)) ?_
  refine TL.call0 (Wants.yes rfl rfl rfl) rfl enters17 rfl rfl (v := .bool true) (fun w hs => (rdsame_c 0 0 (List.replicate 32 (0 : Int)) (List.replicate 32 (0 : Int)) (by simp) (by simp) none 0 0 [] 0 0 (List.replicate 32 (0 : Int)) (List.replicate 32 (0 : Int)) (by simp) (by simp) none 0 0 [] (by omega) (by omega) (fun i x hx => by simp at hx) w ⟨rfl, .inl rfl⟩ ⟨rfl, .inl rfl⟩ (fun i x hx => by simp at hx) (fun i x hx => by simp at hx)).mono fun e w' h => by rw [decide_eq_true (p := sameD _ _ _ _ _ _ _ _ _ _) ⟨rfl, rfl, rfl, rfl, rfl⟩] at h; exact h) ?_
  iterate 4 refine gx ?_
  refine TL.gets (Wants.yes rfl rfl rfl) rfl (Gets.isTrue (Gets.neq rfl rfl rfl) hco) ?_
  iterate 4 refine gx ?_
  refine TL.gets (Wants.yes rfl rfl rfl) rfl (Gets.isTrue (Gets.geq rfl rfl rfl) hpo.1) ?_
  iterate 6 refine gx ?_
  refine TL.gets (Wants.yes rfl rfl rfl) rfl (Gets.isTrue (Gets.leq rfl rfl rfl) hpo.2) ?_
  iterate 6 refine gx ?_
  exact TE.ret1 rfl rfl (fun w hs => ⟨rfl, St.left (H := []) hs (Fresh.cons (by assumption) (Fresh.cons (by assumption) Fresh.nil))⟩)

set_option maxRecDepth 100000 in
set_option maxHeartbeats 2000000 in
theorem fonce_good (A : Option Addr) (m c : Nat) (B : List Int) (hmc : m ≤ c) (hcm : c ≤ 9223372036854775807) (w : World) (hsB : Src w A m .u8 B) (hBB : Bytes B) (hl : m ≤ 2000) (hco : (rDec B).s.co = 0) : Calls Try.prog 6 #[.slice A m c] w fun e w' => e = .returned (.bool true) ∧ St w [] w' := by
  have hbk := rDec_back hBB hco
  have hl1 := hbk.2.2.1
  have hl2 := hbk.2.2.2.1
  have hlC := hbk.2.2.2.2.2.2.1
  have hBm := hsB.1
  refine calls_from (args := [.slice A m c]) Try.func6 rfl Try.ntmps6 (by simp) ?_
  refine TC.pr [0] ?_
  iterate 10 refine gx ?_
  refine TL.gets (Wants.none rfl) rfl (Gets.isFalse (Gets.gtr rfl rfl rfl) (by omega)) ?_
  iterate 2 refine gx ?_
  refine TC.no rfl ?_
  iterate 5 refine gx ?_
  refine TL.call (ι := (Option Addr × Nat) × List CV × List Ent) (V := fun y => .tuple #[.agg ([Value.int .i64 (rDec B).o, Value.int .i64 (rDec B).n] ++ ((rDec B).h1.map (Value.int .u8) ++ ((rDec B).h2.map (Value.int .u8) ++ [Value.slice y.1.1 (rDec B).Cs.length y.1.2]))).toArray, .agg ([Value.int .i64 0, Value.int .i64 0]).toArray]) (R := fun y => ((rDec B).Cs.length ≤ y.1.2 ∧ y.1.2 ≤ 9223372036854775807) ∧ OwnD w.heap.size y.1.1 (rDec B).Cs.length y.2.1 y.2.2 ∧ y.2.1.map cmC = (rDec B).Cs) (H' := fun y => [] ++ y.2.2) (Wants.none rfl) rfl enters15 rfl rfl (fun w hs => (fdec_good B A m c w (hsB.at_ hs (fun b hb => ne_nil)) hBB (by omega) (by omega) (by omega) hco).mono fun e w' ⟨A', c', Fs, He, he, hc, ho, hsm, hw⟩ => ⟨((A', c'), (Fs, He)), he, ⟨hc, ho.mono hs.size, hsm⟩, st_call hs hw ho.1⟩) (fun y hR => ?_)
  obtain ⟨⟨AD, cD⟩, ED, HD⟩ := y
  obtain ⟨hcD, hoD, hEd⟩ := hR
  dsimp only at hcD hoD hEd ⊢
  have hFD : Fresh w HD := hoD.1
  have heB : encD (rDec B).o (rDec B).n (rDec B).h1 (rDec B).h2 (ED.map cmC) = B := by rw [hEd]; exact hbk.2.2.2.2.2.2.2.1
  iterate 3 refine gx ?_
  refine TL.alloc (Wants.none rfl) rfl rfl zero25 (cs := [Value.int .i64 0, Value.int .i64 0, Value.int .u8 0, Value.int .u8 0, Value.int .u8 0, Value.int .u8 0, Value.int .u8 0, Value.int .u8 0, Value.int .u8 0, Value.int .u8 0, Value.int .u8 0, Value.int .u8 0, Value.int .u8 0, Value.int .u8 0, Value.int .u8 0, Value.int .u8 0, Value.int .u8 0, Value.int .u8 0, Value.int .u8 0, Value.int .u8 0, Value.int .u8 0, Value.int .u8 0, Value.int .u8 0, Value.int .u8 0, Value.int .u8 0, Value.int .u8 0, Value.int .u8 0, Value.int .u8 0, Value.int .u8 0, Value.int .u8 0, Value.int .u8 0, Value.int .u8 0, Value.int .u8 0, Value.int .u8 0, Value.int .u8 0, Value.int .u8 0, Value.int .u8 0, Value.int .u8 0, Value.int .u8 0, Value.int .u8 0, Value.int .u8 0, Value.int .u8 0, Value.int .u8 0, Value.int .u8 0, Value.int .u8 0, Value.int .u8 0, Value.int .u8 0, Value.int .u8 0, Value.int .u8 0, Value.int .u8 0, Value.int .u8 0, Value.int .u8 0, Value.int .u8 0, Value.int .u8 0, Value.int .u8 0, Value.int .u8 0, Value.int .u8 0, Value.int .u8 0, Value.int .u8 0, Value.int .u8 0, Value.int .u8 0, Value.int .u8 0, Value.int .u8 0, Value.int .u8 0, Value.int .u8 0, Value.int .u8 0, Value.slice none 0 0]) rfl (tot := 67) (by simp) (fun g1 hg1 => ?_)
  refine TL.al (fun g2 hg2 => ?_)
  refine TL.storeW (Wants.none rfl) rfl rfl size25 rfl (vs := [Value.int .i64 ((rDec B).o), Value.int .i64 ((rDec B).n)] ++ (((rDec B).h1).map (Value.int .u8) ++ (((rDec B).h2).map (Value.int .u8) ++ ([Value.slice AD (((rDec B).Cs.length)) cD])))) rfl (by simp [hl1, hl2]) (ones_app (by simp [Value.oneCell']) (ones_app ints_one (ones_app ints_one (by simp [Value.oneCell'])))) (i := 1) (ent := ⟨g1, 25, [Value.int .i64 0, Value.int .i64 0, Value.int .u8 0, Value.int .u8 0, Value.int .u8 0, Value.int .u8 0, Value.int .u8 0, Value.int .u8 0, Value.int .u8 0, Value.int .u8 0, Value.int .u8 0, Value.int .u8 0, Value.int .u8 0, Value.int .u8 0, Value.int .u8 0, Value.int .u8 0, Value.int .u8 0, Value.int .u8 0, Value.int .u8 0, Value.int .u8 0, Value.int .u8 0, Value.int .u8 0, Value.int .u8 0, Value.int .u8 0, Value.int .u8 0, Value.int .u8 0, Value.int .u8 0, Value.int .u8 0, Value.int .u8 0, Value.int .u8 0, Value.int .u8 0, Value.int .u8 0, Value.int .u8 0, Value.int .u8 0, Value.int .u8 0, Value.int .u8 0, Value.int .u8 0, Value.int .u8 0, Value.int .u8 0, Value.int .u8 0, Value.int .u8 0, Value.int .u8 0, Value.int .u8 0, Value.int .u8 0, Value.int .u8 0, Value.int .u8 0, Value.int .u8 0, Value.int .u8 0, Value.int .u8 0, Value.int .u8 0, Value.int .u8 0, Value.int .u8 0, Value.int .u8 0, Value.int .u8 0, Value.int .u8 0, Value.int .u8 0, Value.int .u8 0, Value.int .u8 0, Value.int .u8 0, Value.int .u8 0, Value.int .u8 0, Value.int .u8 0, Value.int .u8 0, Value.int .u8 0, Value.int .u8 0, Value.int .u8 0, Value.slice none 0 0], 67⟩) rfl rfl (by simp []) (H' := [⟨g2, 36, [Value.int .i64 0, Value.int .i64 0], 2⟩, ⟨g1, 25, [Value.int .i64 ((rDec B).o), Value.int .i64 ((rDec B).n)] ++ (((rDec B).h1).map (Value.int .u8) ++ (((rDec B).h2).map (Value.int .u8) ++ ([Value.slice AD (((rDec B).Cs.length)) cD]))), 67⟩] ++ HD) rfl ?_
  refine TL.storeW (Wants.none rfl) rfl rfl size36 rfl (vs := [Value.int .i64 0, Value.int .i64 0]) rfl (by simp []) (by simp [Value.oneCell']) (i := 0) (ent := ⟨g2, 36, [Value.int .i64 0, Value.int .i64 0], 2⟩) rfl rfl (by simp []) (H' := [⟨g2, 36, [Value.int .i64 0, Value.int .i64 0], 2⟩, ⟨g1, 25, [Value.int .i64 ((rDec B).o), Value.int .i64 ((rDec B).n)] ++ (((rDec B).h1).map (Value.int .u8) ++ (((rDec B).h2).map (Value.int .u8) ++ ([Value.slice AD (((rDec B).Cs.length)) cD]))), 67⟩] ++ HD) rfl ?_
  iterate 2 refine gx ?_
  refine TC.pr [0, 2, 3, 4] ?_
  iterate 4 refine gx ?_
  refine TL.gets (Wants.none rfl) rfl (Gets.build rfl (vs := []) rfl (fun w => by first | rfl | kernel_rfl) (v := .agg ([Value.int .i64 0, Value.int .i64 0]).toArray)) ?_
  refine TL.gets (Wants.none rfl) rfl (Gets.isFalse (Gets.pairNe rfl Try.underlying36 (by decide) (by decide) rfl rfl Try.underlying29 Try.underlying3 sih36 geq36 rfl rfl) (fun h => h ⟨rfl, rfl⟩)) ?_
  iterate 2 refine gx ?_
  refine TC.no rfl ?_
  iterate 4 refine gx ?_
  refine TL.gets (Wants.none rfl) rfl (Gets.loadN rfl agg25 size25 rfl (vs := [Value.int .i64 ((rDec B).o), Value.int .i64 ((rDec B).n)] ++ (((rDec B).h1).map (Value.int .u8) ++ (((rDec B).h2).map (Value.int .u8) ++ ([Value.slice AD (((rDec B).Cs.length)) cD])))) (by simp [hl1, hl2]) (Row.all (i := 1) (ent := ⟨g1, 25, [Value.int .i64 ((rDec B).o), Value.int .i64 ((rDec B).n)] ++ (((rDec B).h1).map (Value.int .u8) ++ (((rDec B).h2).map (Value.int .u8) ++ ([Value.slice AD (((rDec B).Cs.length)) cD]))), 67⟩) rfl rfl rfl)) ?_
  refine TL.call (ι := Value × List Ent) (V := fun y => .tuple #[y.1, .int .i64 0]) (R := fun y => Own w.heap.size 5 .u8 y.1 B y.2) (H' := fun y => [⟨g2, 36, [Value.int .i64 0, Value.int .i64 0], 2⟩, ⟨g1, 25, [Value.int .i64 ((rDec B).o), Value.int .i64 ((rDec B).n)] ++ (((rDec B).h1).map (Value.int .u8) ++ (((rDec B).h2).map (Value.int .u8) ++ ([Value.slice AD (((rDec B).Cs.length)) cD]))), 67⟩] ++ HD ++ y.2) (Wants.none rfl) rfl enters10 rfl rfl (fun w hs => ((fenc_yes (rDec B).o (rDec B).n (rDec B).h1 (rDec B).h2 hl1 hl2 AD (rDec B).Cs.length cD ED (by omega) (by omega) hoD.num (by rw [heB]; omega) w (hoD.src (fun e he => hs.has e (by simp [he]))) (hoD.dat (fun e he => hs.has e (by simp [he]))) (wrongI_of hbk.1 hbk.2.1 (by rw [hEd]; exact fun z hz => (hbk.2.2.2.2.2.1 z hz).1) (hoD.dat (fun e he => hs.has e (by simp [he])))))).mono fun e w' ⟨v, He, he, ho, hw⟩ => ⟨(v, He), he, (by rw [heB] at ho; exact own_mono ho hs.size), st_call hs hw ho.new⟩) (fun y hR => ?_)
  obtain ⟨vE, HE⟩ := y
  dsimp only at hR ⊢
  have hE : Own w.heap.size 5 .u8 vE B HE := hR
  obtain ⟨AE, cE, rfl, hcE, hdE⟩ := hE.form
  refine TL.heap (H' := [⟨g2, 36, [Value.int .i64 0, Value.int .i64 0], 2⟩, ⟨g1, 25, [Value.int .i64 ((rDec B).o), Value.int .i64 ((rDec B).n)] ++ (((rDec B).h1).map (Value.int .u8) ++ (((rDec B).h2).map (Value.int .u8) ++ ([Value.slice AD (((rDec B).Cs.length)) cD]))), 67⟩] ++ (HD ++ HE)) (fun w h => by rw [← List.append_assoc]; exact h) ?_
  have hFtHE := Fresh.app hFD hE.fr7
  iterate 7 refine gx ?_
  refine TC.pr [0, 2, 5, 6] ?_
  iterate 2 refine gx ?_
  refine TL.call0 (Wants.none rfl) rfl enters9 rfl rfl (v := .bool true) (fun w hs => alive_c w) ?_
  iterate 2 refine gx ?_
  refine TL.gets (Wants.yes rfl rfl rfl) rfl (Gets.isTrue (Gets.eql rfl rfl rfl) rfl) ?_
  iterate 4 refine gx ?_
  refine TL.call0 (Wants.yes rfl rfl rfl) rfl enters13 rfl rfl (v := .bool true) (fun w hs => calls_yes rfl (sequal_c B B AE A _ cE _ c w (hE.srcOf (fun e he => hs.has e (by simp [he]))) (hsB.at_ hs (fun b hb => (ne_app (ne_cons (by show g2 ≠ b; omega) (ne_cons (by show g1 ≠ b; omega) ne_nil)) (hFtHE.ne hb)))) hcE hmc (by omega) (by omega))) ?_
  iterate 5 refine gx ?_
  exact TE.ret1 rfl rfl (fun w hs => ⟨rfl, St.left (H := []) hs (Fresh.cons (by assumption) (Fresh.cons (by assumption) hFtHE))⟩)


theorem formatOnce_walk (A : Option Addr) (m c : Nat) (B : List Int) (hmc : m ≤ c) (hcm : c ≤ 9223372036854775807) (w : World) (hsB : Src w A m .u8 B) (hBB : Bytes B) : Calls Try.prog 6 #[.slice A m c] w fun e w' => e = .returned (.bool true) ∧ St w [] w' := by
  by_cases hl : m ≤ 2000
  · by_cases hco : (rDec B).s.co = 0
    · exact fonce_good A m c B hmc hcm w hsB hBB hl hco
    · exact fonce_bad A m c B hmc hcm w hsB hBB hl hco
  · exact fonce_long A m c B hmc hcm w hsB hBB (by omega)
end Go.Proofs.Ytclmgfcdnokaiaa
/-
  FormatInverse: the walk.
-/
namespace Go.Proofs.Ytclmgfcdnokaiaa
set_option linter.unusedVariables false
set_option linter.unusedSimpArgs false
open Go Go.RowKit

end Go.Proofs.Ytclmgfcdnokaiaa
/-
  The walks, as the frames want them.
-/
namespace Go.Proofs.Ytclmgfcdnokaiaa
set_option linter.unusedVariables false
set_option linter.unusedSimpArgs false
open Go Go.RowKit

theorem formatOnce_w (Ab : Option Addr) (mb cb : Nat) (Bb : List Int) (w : World) (hsb : Src w Ab mb .u8 Bb) (hmcb : mb ≤ cb) (hcmb : cb ≤ 9223372036854775807) (hBb : Bytes Bb) : Calls Try.prog 6 #[.slice Ab mb cb] w fun e w' => e = .returned (.bool true) ∧ St w [] w' := formatOnce_walk Ab mb cb Bb hmcb hcmb w hsb hBb
end Go.Proofs.Ytclmgfcdnokaiaa
/-
  A law's frame: arguments opened, tables that start-up lays.
-/
namespace Go.Proofs.Ytclmgfcdnokaiaa
set_option linter.unusedVariables false
set_option linter.unusedSimpArgs false
open Go Go.RowKit Go.ChangeShapes Go.WideShapes Go.ChangeAt Go.Joins Go.Deep

theorem own_knob : ownKnob Try.prog.godebug = none := by kernel_rfl
theorem laid_out : laidOutB Try.prog = true := by kernel_rfl

section
variable {H : Type} {enc : TypeId × Value → H} {P : Program} {W : World} {base fuel : Nat} {sp : Nat → Bool} {held : Bool} {t e : TypeId} {kd : IntKind}
theorem wf_u8b {n : Int} (h : (Lit.int .u8 n).wf = true) : 0 ≤ n ∧ n ≤ 255 := by
  simp [Lit.wf, IntKind.min, IntKind.max, IntKind.signed, IntKind.bits] at h
  exact h
/-- A slice of bytes that came in. -/
theorem open_bytes {v : Value} {d : DataW H} {ps : List MemPlace} (ht : P.underlying t = some (.slice e)) (he : P.underlying e = some (.int .u8)) (hc : P.cellsOf e = 1) (hv : Value.okWide P W .any base t v)
    (h : DataW.Trod enc P W 0 (fun _ => true) true t v d ps) : ∃ (A : Option Addr) (m c : Nat) (B : List Int), v = .slice A m c ∧ m ≤ c ∧ c ≤ 9223372036854775807 ∧ Src W A m .u8 B ∧ ∀ x ∈ B, 0 ≤ x ∧ x ≤ 255 := by
  obtain ⟨a0, len0, cap0, rfl⟩ := okWide_slice ht hv
  obtain ⟨fuel, hf⟩ := h
  rcases open_ints ht he hc hf with ⟨hcs, _⟩ | ⟨a, len, cap, zs, hcs, _, hl, hm, hz, _, hcell, hwf⟩
  · simp [Value.cells] at hcs
    obtain ⟨rfl, rfl, rfl⟩ := hcs
    exact ⟨none, 0, 0, [], rfl, Nat.le_refl _, by omega, ⟨rfl, .inl rfl⟩, by simp⟩
  · simp [Value.cells] at hcs
    obtain ⟨rfl, rfl, rfl⟩ := hcs
    simp only [if_true] at hz
    refine ⟨some a, len0, cap0, zs.take len0, rfl, hl, hm, ⟨by simp; omega, ?_⟩, fun x hx => wf_u8b (hwf x (List.mem_of_mem_take hx))⟩
    by_cases h0 : len0 = 0
    · exact .inl h0
    · right
      obtain ⟨b, off, spot⟩ := a
      have hc0 := hcell 0 (by omega)
      have hspot : spot = none := by simpa [Addr.add] using World.cell?_spot hc0
      subst hspot
      refine ⟨b, off, rfl, World.block_lt_of_cell? W _ hc0, fun j hj => ?_⟩
      have := hcell j (by omega)
      rw [addr_add] at this
      rw [this]
      simp [List.getD_eq_getElem?_getD, List.getElem?_take, hj]
end
end Go.Proofs.Ytclmgfcdnokaiaa
/-
  A slice of slices of bytes that came in, with the bounds of its numbers.
-/
namespace Go.Proofs.Ytclmgfcdnokaiaa
set_option linter.unusedVariables false
set_option linter.unusedSimpArgs false
open Go Go.RowKit Go.ChangeShapes Go.WideShapes Go.ChangeAt Go.Joins Go.Deep
section
variable {H : Type} {enc : TypeId × Value → H} {P : Program} {W : World} {base fuel : Nat} {sp : Nat → Bool} {held : Bool} {t e : TypeId} {kd : IntKind}
end
end Go.Proofs.Ytclmgfcdnokaiaa
/-
  Arguments opened: slices of numbers with their reach, slices of structs.
-/
namespace Go.Proofs.Ytclmgfcdnokaiaa
set_option linter.unusedVariables false
set_option linter.unusedSimpArgs false
set_option linter.unusedVariables false
set_option maxRecDepth 100000
open Go Go.RowKit Go.ChangeShapes Go.WideShapes Go.ChangeAt Go.Joins Go.Deep
end Go.Proofs.Ytclmgfcdnokaiaa
/-
  Arguments opened: commands, extents, arrays of three numbers.
-/
namespace Go.Proofs.Ytclmgfcdnokaiaa
set_option linter.unusedVariables false
set_option linter.unusedSimpArgs false
set_option linter.unusedVariables false
set_option maxRecDepth 100000
open Go Go.RowKit Go.ChangeShapes Go.WideShapes Go.ChangeAt Go.Joins Go.Deep
end Go.Proofs.Ytclmgfcdnokaiaa
/-
  Arguments opened: deltas.
-/
namespace Go.Proofs.Ytclmgfcdnokaiaa
set_option linter.unusedVariables false
set_option linter.unusedSimpArgs false
set_option linter.unusedVariables false
set_option maxRecDepth 100000
open Go Go.RowKit Go.ChangeShapes Go.WideShapes Go.ChangeAt Go.Joins Go.Deep
end Go.Proofs.Ytclmgfcdnokaiaa
namespace Go.Proofs.Ytclmgfcdnokaiaa
set_option linter.unusedVariables false
open Go Go.RowKit Go.ChangeShapes Go.WideShapes Go.ChangeAt Go.Joins Go.Deep
set_option maxRecDepth 100000 in
theorem formatOnce_lifted (os : Os) (started : os.Started) (H : Type) (enc : TypeId × Value → H) :
    ReturnsInHanded {} Try.checked os 6 .any (Rows.formatOnceSpec.pre6 enc Try.prog Try.f6 Rows.formatOnceRow.domain false) (Rows.formatOnceSpec.post enc Try.prog Try.f6 false true false false) := by
  refine returnsInHanded_of_change_sized (C := Try.checked) own_knob started (by kernel_rfl) Try.func6
    (ChangeSpec.witness6 (enc := enc) (C := Try.checked) false ⟨#[], #[.slice none 0 0], []⟩ 8 (by kernel_rfl) (by kernel_rfl) (by kernel_rfl) (by kernel_rfl)) ?_
  intro W base args ds gs before hval0 hW hcnd hsz0 _
  have hval : ∀ (j : Nat) t v, Try.f6.params[j]? = some t → args[j]? = some v → Value.okWide Try.prog W .any base t v := hval0
  have hW' := hW
  obtain ⟨p, q, hA0, hV, rfl, hfz, hnd⟩ := hW
  have hA : DataW.TrodAll enc Try.prog W 0 (fun _ => true) true Try.f6.params.toList args.toList ds p := hA0
  have hsz : (DataW.weightsEach Try.prog (Try.f6.params.toList ++ Rows.formatOnceSpec.plain.varTypes Try.prog) (ds ++ gs)).all (· ≤ reachBytes) = true := hsz0
  rw [Try.params6] at hA hval hsz
  obtain ⟨v0, vs0, d0, ds0, p0, q0, hargs, rfl, rfl, h0, r0⟩ := trodAll_cons hA
  obtain ⟨rfl, rfl, rfl⟩ := trodAll_nil r0
  obtain rfl : args = #[v0] := by cases args; simp_all
  obtain ⟨rfl, rfl⟩ := trodVars_none hV
  have k0 := h0
  have lt0 : ∀ x ∈ p0, x.block < W.heap.size := by obtain ⟨m, hm⟩ := k0; exact DataW.trod_lt m _ _ _ hm
  obtain ⟨Ab, mb, cb, Bb, hv0, hmc0, hcm0, hs0, hB0⟩ := open_bytes Try.underlying28 Try.underlying5 (by kernel_rfl) (hval 0 28 v0 rfl rfl) h0
  subst hv0
  clear hA0 hval0 hsz0
  refine (formatOnce_w Ab mb cb Bb W hs0 hmc0 hcm0 hB0).mono fun e W' ⟨he, hst⟩ => ?_
  have bel := hst.below
  subst he
  exact ⟨_, rfl, _, _, _, [], _, [], hW', trodAll_mk1 (shut_bool Try.underlying4 _), (trodAll_cons_mk (Below.trod laid_out (by kernel_rfl) (of_decide_eq_true (by kernel_rfl)) k0 bel lt0) trodAll_mk0), rfl, bel.frame _, fun h => by cases h⟩

/-- The statement. -/
theorem formatOnce_holds : Rows.FormatOnceSaid :=
  OpenClaim.holds_of_wide 6 Try.f6 rfl rfl rfl rfl rfl rfl rfl ⟨rfl, rfl, rfl, rfl, rfl⟩ rfl rfl rfl rfl rfl (by kernel_rfl) Try.func6 (by kernel_rfl)
    (of_decide_eq_true (by kernel_rfl)) (by unfold Func.isWrapper; first | (rw [if_pos (by decide +kernel)]; kernel_rfl) | (rw [if_neg (by decide +kernel)]; exact ⟨rfl, rfl⟩))
    (fun os started H enc _ => formatOnce_lifted os started H enc)
end Go.Proofs.Ytclmgfcdnokaiaa
