/-
  The rules of the small logic, one for each kind of operation.
-/
import Derived.Test.YtdllgfkcakhoeaaEng
namespace Go.Proofs.Ytdllgfkcakhoeaa
set_option linter.unusedVariables false
set_option linter.unusedSimpArgs false
open Go Go.RowKit

section
variable {P : Program} {ops : Array Oper} {Q : Exit → Act → World → Prop} {n : Sz} {w0 : World} {L L' : List (Nat × Value)} {H : List Ent}
variable {o : Oper} {rest : List Oper} {v u : Value} {x y z : Operand} {k m j : Nat} {t t' e : TypeId} {kd kd' : IntKind} {p q r : Int}

theorem addr_add (b o i : Nat) : (⟨b, o, none⟩ : Addr).add i = ⟨b, o + i, none⟩ := by
  unfold Addr.add
  split
  · rename_i h; subst h; rfl
  · rfl

theorem Gets.move (ho : o.op = .move x) (hx : ev L x = some v) : Gets P n w0 o L H v := fun a w hf hs => by
  simp only [execOp, ho, hf.eval hx]; rfl
theorem Gets.assign (ho : o.op = .assign x) (hx : ev L x = some v) : Gets P n w0 o L H v := fun a w hf hs => by
  simp only [execOp, ho, hf.eval hx]; rfl
theorem run_value {s : Sem Value} {w w' : World} {v : Value} (h : s.run P w = .ok v w') : (do pure (Next.value (← s)) : Sem Next).run P w = .ok (.value v) w' := by
  simp [Sem.run_bind, h]
theorem run_unit {s : Sem Unit} {w w' : World} (h : s.run P w = .ok () w') : (do s; pure Next.skip : Sem Next).run P w = .ok .skip w' := by
  simp [Sem.run_bind, h]
theorem Gets.bin {op : BinOp} (ho : o.op = .binOp op t x y t') (hx : ev L x = some (.int kd p)) (hy : ev L y = some (.int kd' q)) (hr : ∀ w, (binOp op t (.int kd p) (.int kd' q)).run P w = .ok v w) : Gets P n w0 o L H v := fun a w hf hs => by
  simp only [execOp, ho, hf.eval hx, hf.eval hy]
  refine run_value ?_
  have he : eqGuard op t x y (.int kd p) (.int kd' q) = pure () := by unfold eqGuard; split <;> rfl
  rw [he]
  exact hr w
theorem Gets.add (ho : o.op = .binOp .add t x y t') (hx : ev L x = some (.int kd p)) (hy : ev L y = some (.int kd q)) (hr : kd.wrap (p + q) = r) : Gets P n w0 o L H (.int kd r) :=
  Gets.bin ho hx hy fun w => by simp only [binOp]; rw [if_neg (by simp)]; simp only [Op.intArith]; rw [hr]; rfl
theorem Gets.sub (ho : o.op = .binOp .sub t x y t') (hx : ev L x = some (.int kd p)) (hy : ev L y = some (.int kd q)) (hr : kd.wrap (p - q) = r) : Gets P n w0 o L H (.int kd r) :=
  Gets.bin ho hx hy fun w => by simp only [binOp]; rw [if_neg (by simp)]; simp only [Op.intArith]; rw [hr]; rfl
theorem Gets.mul (ho : o.op = .binOp .mul t x y t') (hx : ev L x = some (.int kd p)) (hy : ev L y = some (.int kd q)) (hr : kd.wrap (p * q) = r) : Gets P n w0 o L H (.int kd r) :=
  Gets.bin ho hx hy fun w => by simp only [binOp]; rw [if_neg (by simp)]; simp only [Op.intArith]; rw [hr]; rfl
theorem Gets.quo (ho : o.op = .binOp .quo t x y t') (hx : ev L x = some (.int kd p)) (hy : ev L y = some (.int kd q)) (hq : q ≠ 0) (hr : kd.wrap (p.tdiv q) = r) : Gets P n w0 o L H (.int kd r) :=
  Gets.bin ho hx hy fun w => by simp only [binOp]; rw [if_neg (by simp)]; simp only [Op.intDiv]; rw [if_neg hq, hr]; rfl
theorem Gets.rem (ho : o.op = .binOp .rem t x y t') (hx : ev L x = some (.int kd p)) (hy : ev L y = some (.int kd q)) (hq : q ≠ 0) (hr : p.tmod q = r) : Gets P n w0 o L H (.int kd r) :=
  Gets.bin ho hx hy fun w => by simp only [binOp]; rw [if_neg (by simp)]; simp only [Op.intDiv]; rw [if_neg hq, hr]; rfl
/-- Bitwise operations, as the model computes them. -/
def andI (kd : IntKind) (p q : Int) : Int := kd.wrap (BitVec.ofInt kd.bits p &&& BitVec.ofInt kd.bits q).toNat
def orI (kd : IntKind) (p q : Int) : Int := kd.wrap (BitVec.ofInt kd.bits p ||| BitVec.ofInt kd.bits q).toNat
def xorI (kd : IntKind) (p q : Int) : Int := kd.wrap (BitVec.ofInt kd.bits p ^^^ BitVec.ofInt kd.bits q).toNat
def clrI (kd : IntKind) (p q : Int) : Int := kd.wrap (BitVec.ofInt kd.bits p &&& ~~~ BitVec.ofInt kd.bits q).toNat
theorem Gets.and (ho : o.op = .binOp .and t x y t') (hx : ev L x = some (.int kd p)) (hy : ev L y = some (.int kd q)) (hr : andI kd p q = r) : Gets P n w0 o L H (.int kd r) :=
  Gets.bin ho hx hy fun w => by simp only [binOp]; rw [if_neg (by simp)]; subst hr; rfl
theorem Gets.or (ho : o.op = .binOp .or t x y t') (hx : ev L x = some (.int kd p)) (hy : ev L y = some (.int kd q)) (hr : orI kd p q = r) : Gets P n w0 o L H (.int kd r) :=
  Gets.bin ho hx hy fun w => by simp only [binOp]; rw [if_neg (by simp)]; subst hr; rfl
theorem Gets.xor (ho : o.op = .binOp .xor t x y t') (hx : ev L x = some (.int kd p)) (hy : ev L y = some (.int kd q)) (hr : xorI kd p q = r) : Gets P n w0 o L H (.int kd r) :=
  Gets.bin ho hx hy fun w => by simp only [binOp]; rw [if_neg (by simp)]; subst hr; rfl
theorem Gets.andNot (ho : o.op = .binOp .andNot t x y t') (hx : ev L x = some (.int kd p)) (hy : ev L y = some (.int kd q)) (hr : clrI kd p q = r) : Gets P n w0 o L H (.int kd r) :=
  Gets.bin ho hx hy fun w => by simp only [binOp]; rw [if_neg (by simp)]; subst hr; rfl
def shlI (kd : IntKind) (p q : Int) : Int := kd.wrap (p * 2 ^ (min q.toNat kd.bits))
def shrI (kd : IntKind) (p q : Int) : Int := p.fdiv (2 ^ (min q.toNat kd.bits))
theorem Gets.shl (ho : o.op = .binOp .shl t x y t') (hx : ev L x = some (.int kd p)) (hy : ev L y = some (.int kd' q)) (hq : 0 ≤ q) (hr : shlI kd p q = r) : Gets P n w0 o L H (.int kd r) :=
  Gets.bin ho hx hy fun w => by simp only [binOp, Op.shift]; rw [if_neg (by omega)]; subst hr; rfl
theorem Gets.shr (ho : o.op = .binOp .shr t x y t') (hx : ev L x = some (.int kd p)) (hy : ev L y = some (.int kd' q)) (hq : 0 ≤ q) (hr : shrI kd p q = r) : Gets P n w0 o L H (.int kd r) :=
  Gets.bin ho hx hy fun w => by simp only [binOp, Op.shift]; rw [if_neg (by omega)]; subst hr; rfl
theorem Gets.lss (ho : o.op = .binOp .lss t x y t') (hx : ev L x = some (.int kd p)) (hy : ev L y = some (.int kd q)) : Gets P n w0 o L H (.bool (decide (p < q))) :=
  Gets.bin ho hx hy fun w => by simp only [binOp]; rw [if_neg (by simp)]; rfl
theorem Gets.leq (ho : o.op = .binOp .leq t x y t') (hx : ev L x = some (.int kd p)) (hy : ev L y = some (.int kd q)) : Gets P n w0 o L H (.bool (decide (p ≤ q))) :=
  Gets.bin ho hx hy fun w => by simp only [binOp]; rw [if_neg (by simp)]; rfl
theorem Gets.gtr (ho : o.op = .binOp .gtr t x y t') (hx : ev L x = some (.int kd p)) (hy : ev L y = some (.int kd q)) : Gets P n w0 o L H (.bool (decide (q < p))) :=
  Gets.bin ho hx hy fun w => by simp only [binOp]; rw [if_neg (by simp)]; rfl
theorem Gets.geq (ho : o.op = .binOp .geq t x y t') (hx : ev L x = some (.int kd p)) (hy : ev L y = some (.int kd q)) : Gets P n w0 o L H (.bool (decide (q ≤ p))) :=
  Gets.bin ho hx hy fun w => by simp only [binOp]; rw [if_neg (by simp)]; rfl
theorem Gets.eql (ho : o.op = .binOp .eql t x y t') (hx : ev L x = some (.int kd p)) (hy : ev L y = some (.int kd q)) : Gets P n w0 o L H (.bool (decide (p = q))) :=
  Gets.bin ho hx hy fun w => by simp only [binOp]; rw [if_neg (by simp)]; rfl
theorem Gets.neq (ho : o.op = .binOp .neq t x y t') (hx : ev L x = some (.int kd p)) (hy : ev L y = some (.int kd q)) : Gets P n w0 o L H (.bool (decide (p ≠ q))) :=
  Gets.bin ho hx hy fun w => by
    simp only [binOp]; rw [if_neg (by simp)]
    have : (p != q) = decide (p ≠ q) := by by_cases h : p = q <;> simp [h]
    rw [← this]; rfl

theorem Gets.un {op : UnOp} (ho : o.op = .unOp op t x) (hx : ev L x = some u) (hr : ∀ w, (Op.unary op u).run P w = .ok v w) : Gets P n w0 o L H v := fun a w hf hs => by
  simp only [execOp, ho, hf.eval hx]
  exact run_value (hr w)
theorem Gets.neg (ho : o.op = .unOp .neg t x) (hx : ev L x = some (.int kd p)) (hr : kd.wrap (0 - p) = r) : Gets P n w0 o L H (.int kd r) := Gets.un ho hx fun w => by subst hr; rfl
theorem Gets.cpl (ho : o.op = .unOp .xor t x) (hx : ev L x = some (.int kd p)) (hr : xorI kd (if kd.signed then -1 else kd.max) p = r) : Gets P n w0 o L H (.int kd r) := Gets.un ho hx fun w => by subst hr; rfl
theorem Gets.not {b : Bool} (ho : o.op = .unOp .not t x) (hx : ev L x = some (.bool b)) : Gets P n w0 o L H (.bool !b) := Gets.un ho hx fun w => rfl

theorem run_under {d : TypeDesc} (h : P.underlying t = some d) (w : World) : (underlying t).run P w = .ok d w := by
  simp [underlying, program, Sem.run_bind, Sem.run, h]
theorem run_info {i : TypeInfo} (h : P.info? t = some i) (w : World) : (typeInfo t).run P w = .ok i w := by
  simp [typeInfo, program, Sem.run_bind, Sem.run, h]
theorem run_size {s : Nat} (h : (P.info? t).map (·.size) = some s) (w : World) : (sizeOf t).run P w = .ok s w := by
  obtain ⟨i, hi, hs⟩ := Option.map_eq_some_iff.1 h
  simp only [sizeOf, Sem.run_bind, run_info hi, Result.andThen_ok]
  rw [hs]; rfl
theorem run_zero {z : Value} (h : (P.info? t).bind (·.zero) = some z) (w : World) : (zeroValue t).run P w = .ok z w := by
  obtain ⟨i, hi, hs⟩ := Option.bind_eq_some_iff.1 h
  simp only [zeroValue, Sem.run_bind, run_info hi, Result.andThen_ok, hs]; rfl

theorem Gets.conv (ho : o.op = .convert t t' x) (h1 : P.underlying t = some (.int kd')) (h2 : P.underlying t' = some (.int kd)) (hx : ev L x = some (.int kd' p)) (hr : kd.wrap p = r) : Gets P n w0 o L H (.int kd r) := fun a w hf hs => by
  simp only [execOp, ho, hf.eval hx]
  refine run_value ?_
  simp only [convert, Sem.run_bind, run_under h1, run_under h2, Result.andThen_ok]
  subst hr; rfl
theorem Gets.nilCheck {ad : Addr} (ho : o.op = .nilCheck x) (hx : ev L x = some (.pointer (some ad))) : Gets P n w0 o L H (.pointer (some ad)) := fun a w hf hs => by
  simp only [execOp, ho, hf.eval hx]; rfl
theorem Gets.fieldAddr {f b off : Nat} {fields : Array Field} {fl : Field} {s : Nat} (ho : o.op = .fieldAddr t x f) (h1 : P.underlying t = some (.struct fields)) (hfl : fields[f]? = some fl)
    (hsz : (P.info? fl.type).map (·.size) = some (s + 1)) (hx : ev L x = some (.pointer (some ⟨b, off, none⟩))) {off' : Nat} (hoff : off + fl.offset = off') : Gets P n w0 o L H (.pointer (some ⟨b, off', none⟩)) := fun a w hf hs => by
  subst hoff
  simp only [execOp, ho, hf.eval hx]
  refine run_value ?_
  simp only [Instr.fieldAt, Sem.run_bind, run_under h1, Result.andThen_ok, hfl, Instr.sureAddr, fieldPlace, run_size hsz, Sem.run_pure]
  rw [if_neg (by omega)]
  simp [addr_add, Sem.run_pure]
theorem Gets.idxSlice {b off len cap i s : Nat} (ho : o.op = .indexAddr t x y) (h1 : P.underlying t = some (.slice e)) (hsz : (P.info? e).map (·.size) = some s)
    (hx : ev L x = some (.slice (some ⟨b, off, none⟩) len cap)) (hy : ev L y = some (.int kd p)) (hp : p = (i : Int)) (hi : i < len) {off' : Nat} (hoff : off + i * s = off') : Gets P n w0 o L H (.pointer (some ⟨b, off', none⟩)) := fun a w hf hs => by
  subst hoff
  subst hp
  simp only [execOp, ho, hf.eval hx, hf.eval hy]
  refine run_value ?_
  simp only [Instr.indexAt, asIntOf, Sem.run_bind, run_under h1, Result.andThen_ok, Sem.run_pure]
  rw [if_pos (by omega)]
  simp [run_size hsz, addr_add, Sem.run_bind]
theorem Gets.idxArray {b off len i s : Nat} (ho : o.op = .indexAddr t x y) (h1 : P.underlying t = some (.array len e)) (hsz : (P.info? e).map (·.size) = some s)
    (hx : ev L x = some (.pointer (some ⟨b, off, none⟩))) (hy : ev L y = some (.int kd p)) (hp : p = (i : Int)) (hi : i < len) {off' : Nat} (hoff : off + i * s = off') : Gets P n w0 o L H (.pointer (some ⟨b, off', none⟩)) := fun a w hf hs => by
  subst hoff
  subst hp
  simp only [execOp, ho, hf.eval hx, hf.eval hy]
  refine run_value ?_
  simp only [Instr.indexAt, asIntOf, Sem.run_bind, run_under h1, Result.andThen_ok, Sem.run_pure, Instr.sureAddr]
  rw [if_pos (by omega)]
  simp [run_size hsz, addr_add, Sem.run_bind]
/-- An element of an array's value, of one cell. -/
theorem Gets.index1 {len i : Nat} {cs : Array Value} (ho : o.op = .index t x y) (h1 : P.underlying t = some (.array len e)) (hag : (isAgg e).run P = fun w => .ok false w) (hsz : (P.info? e).map (·.size) = some 1)
    (hx : ev L x = some (.agg cs)) (hy : ev L y = some (.int kd p)) (hp : p = (i : Int)) (hi : i < len) (hc : cs[i]? = some v) : Gets P n w0 o L H v := fun a w hf hs => by
  subst hp
  simp only [execOp, ho, hf.eval hx, hf.eval hy]
  refine run_value ?_
  simp only [Instr.index, asIntOf, Sem.run_bind, run_under h1, Result.andThen_ok, Sem.run_pure]
  rw [if_pos (by omega)]
  simp [run_size hsz, part, hag, Sem.run_bind, hc]

theorem isAgg_no {d : TypeDesc} (h : P.underlying t = some d) (hd : (match d with | .struct _ | .array _ _ => true | _ => false) = false) : (isAgg t).run P = fun w => .ok false w := by
  funext w
  simp only [isAgg, Sem.run_bind, run_under h, Result.andThen_ok]
  cases d <;> first | rfl | cases hd
theorem isAgg_yes {d : TypeDesc} (h : P.underlying t = some d) (hd : (match d with | .struct _ | .array _ _ => true | _ => false) = true) : (isAgg t).run P = fun w => .ok true w := by
  funext w
  simp only [isAgg, Sem.run_bind, run_under h, Result.andThen_ok]
  cases d <;> first | rfl | cases hd

/-- What lies at an address, whatever entry it is. -/
def At (w0 : World) (H : List Ent) (ad : Addr) (v : Value) : Prop := ∀ w, St w0 H w → w.cell? ad = some v
theorem At.ent {i g off : Nat} {ent : Ent} (hi : H[i]? = some ent) (hg : ent.g = g) (hc : ent.cs[off]? = some v) : At w0 H ⟨g, off, none⟩ v := fun w hs => by
  subst hg; exact (hs.has _ (List.mem_of_getElem? hi)).cell hc
theorem At.old {b off : Nat} (hc : w0.cell? ⟨b, off, none⟩ = some v) (hb : b < w0.heap.size) (hne : ∀ e ∈ H, e.g ≠ b) : At w0 H ⟨b, off, none⟩ v := fun w hs => by
  rw [hs.old_cell (ad := ⟨b, off, none⟩) hb hne]; exact hc

/-- A row of numbers in memory. -/
def RowI (w : World) (b off n : Nat) (kd : IntKind) (B : List Int) : Prop := ∀ j, j < n → w.cell? ⟨b, off + j, none⟩ = some (.int kd (B.getD j 0))
theorem At.rowI {b off m i o' : Nat} {kd : IntKind} {B : List Int} (h : RowI w0 b off m kd B) (hi : i < m) (ho : off + i = o') (hb : b < w0.heap.size) (hne : ∀ e ∈ H, e.g ≠ b) : At w0 H ⟨b, o', none⟩ (.int kd (B.getD i 0)) := by
  subst ho; exact At.old (h i hi) hb hne
theorem Gets.load1 {ad : Addr} (ho : o.op = .load t x) (hag : (isAgg t).run P = fun w => .ok false w) (hx : ev L x = some (.pointer (some ad))) (hc : At w0 H ad v) : Gets P n w0 o L H v := fun a w hf hs => by
  simp only [execOp, ho, hf.eval hx]
  refine run_value ?_
  simp only [Instr.loadAt, Instr.sureAddr, loadVar, Sem.run_bind, Sem.run_pure, Result.andThen_ok, hag]
  simp [load, Sem.run, hc w hs]
theorem run_loadCells {w : World} {b off : Nat} : ∀ (s i : Nat) (acc : Array Value) (vs : List Value), vs.length = s → (∀ j u, vs[j]? = some u → w.cell? ⟨b, off + (i + j), none⟩ = some u) →
    (loadCellsFrom ⟨b, off, none⟩ i s acc).run P w = .ok (acc ++ vs.toArray) w
  | 0, i, acc, vs, hl, _ => by
    obtain rfl : vs = [] := List.length_eq_zero_iff.1 hl
    simp [loadCellsFrom]
  | s + 1, i, acc, [], hl, _ => by simp at hl
  | s + 1, i, acc, c :: vs, hl, h => by
    have h0 := h 0 c rfl
    unfold loadCellsFrom
    simp only [Sem.run_bind, addr_add, load, Sem.run]
    rw [show off + (i + 0) = off + i from rfl] at h0
    rw [h0]
    simp only [Result.andThen_ok]
    rw [run_loadCells s (i + 1) (acc.push c) vs (by simpa using hl) (fun j u hu => by have := h (j + 1) u hu; rwa [show i + (j + 1) = i + 1 + j by omega] at this)]
    simp
def Row (w0 : World) (H : List Ent) (b off : Nat) (vs : List Value) : Prop := ∀ w, St w0 H w → ∀ j u, vs[j]? = some u → w.cell? ⟨b, off + j, none⟩ = some u
theorem Row.ent {i g off : Nat} {ent : Ent} {vs : List Value} (hi : H[i]? = some ent) (hg : ent.g = g) (hc : ∀ j u, vs[j]? = some u → ent.cs[off + j]? = some u) : Row w0 H g off vs := fun w hs j u hu => by
  subst hg; exact (hs.has _ (List.mem_of_getElem? hi)).cell (hc j u hu)
theorem Row.whole {i g : Nat} {ent : Ent} (hi : H[i]? = some ent) (hg : ent.g = g) : Row w0 H g 0 ent.cs := Row.ent hi hg (fun j u hu => by rwa [Nat.zero_add])
theorem Row.all {i g : Nat} {ent : Ent} {vs : List Value} (hi : H[i]? = some ent) (hg : ent.g = g) (hv : ent.cs = vs) : Row w0 H g 0 vs := by subst hv; exact Row.whole hi hg
theorem Row.at_ {b off i : Nat} {vs : List Value} (h : Row w0 H b off vs) (hi : vs[i]? = some v) : At w0 H ⟨b, off + i, none⟩ v := fun w hs => h w hs i v hi
theorem Gets.loadN {b off s : Nat} {vs : List Value} (ho : o.op = .load t x) (hag : (isAgg t).run P = fun w => .ok true w) (hsz : (P.info? t).map (·.size) = some s) (hx : ev L x = some (.pointer (some ⟨b, off, none⟩)))
    (hl : vs.length = s) (hc : Row w0 H b off vs) : Gets P n w0 o L H (.agg vs.toArray) := fun a w hf hs => by
  simp only [execOp, ho, hf.eval hx]
  refine run_value ?_
  simp only [Instr.loadAt, Instr.sureAddr, loadVar, Sem.run_bind, Sem.run_pure, Result.andThen_ok, hag, run_size hsz, loadCells, if_true]
  rw [run_loadCells s 0 #[] vs hl (fun j u hu => by rw [Nat.zero_add]; exact hc w hs j u hu)]
  simp

theorem Gets.lenSlice {A : Option Addr} {len cap : Nat} (ho : o.op = .call { callee := .builtin .len, args := #[x], argTypes := #[t] }) (h1 : P.underlying t = some (.slice e)) (hx : ev L x = some (.slice A len cap)) : Gets P n w0 o L H (.int .i64 len) := fun a w hf hs => by
  simp only [execOp, ho, resolve, invoke, builtin, Sem.run_bind, Sem.run_pure, Result.andThen_ok, List.map_toArray, List.map_cons, List.map_nil, hf.eval hx, Builtin.len_]
  simp [Sem.run_bind, run_under h1, goInt]
theorem Gets.lenString {s : ByteArray} (ho : o.op = .call { callee := .builtin .len, args := #[x], argTypes := #[t] }) (h1 : P.underlying t = some .string) (hx : ev L x = some (.string s)) : Gets P n w0 o L H (.int .i64 s.size) := fun a w hf hs => by
  simp only [execOp, ho, resolve, invoke, builtin, Sem.run_bind, Sem.run_pure, Result.andThen_ok, List.map_toArray, List.map_cons, List.map_nil, hf.eval hx, Builtin.len_]
  simp [Sem.run_bind, run_under h1, goInt]

/-! ### Slices -/
def cutA (A : Option Addr) (cap l size : Nat) : Option Addr := if cap = l then A else A.map (·.add (l * size))
theorem cutA_some {b off cap l size : Nat} (h : l < cap) : cutA (some ⟨b, off, none⟩) cap l size = some ⟨b, off + l * size, none⟩ := by
  unfold cutA; rw [if_neg (by omega)]; simp [addr_add]
theorem cut_is {b off cap l size o' : Nat} (h : l < cap) (ho : off + l * size = o') : cutA (some ⟨b, off, none⟩) cap l size = some ⟨b, o', none⟩ := by subst ho; exact cutA_some h
theorem cutA_zero (A : Option Addr) (cap size : Nat) : cutA A cap 0 size = A := by
  unfold cutA
  split
  · rfl
  · cases A with
    | none => rfl
    | some a => simp [Addr.add]
def bnd (L : List (Nat × Value)) (d : Nat) : Option Operand → Nat → Prop
  | none, l => l = d
  | some x, l => ∃ kd p, ev L x = some (.int kd p) ∧ p = (l : Int)
theorem bnd.at_ {d l : Nat} (hx : ev L x = some (.int kd p)) (hp : p = (l : Int)) : bnd L d (some x) l := ⟨kd, p, hx, hp⟩
theorem bnd.dflt {d : Nat} : bnd L d none d := rfl
def bval (L : List (Nat × Value)) : Option Operand → Option Value
  | none => none
  | some x => ev L x
theorem run_bounds {b : Bool} {len cap l h : Nat} {lo hi : Option Value} (hlo : match lo with | none => l = 0 | some v => ∃ kd p, v = .int kd p ∧ p = (l : Int)) (hhi : match hi with | none => h = len | some v => ∃ kd p, v = .int kd p ∧ p = (h : Int))
    (h1 : l ≤ h) (h2 : h ≤ cap) (w : World) : (Instr.sliceBounds b len cap lo hi none).run P w = .ok (l, h, cap) w := by
  unfold Instr.sliceBounds
  cases hi with
  | none =>
    simp only at hhi
    subst hhi
    cases lo with
    | none => simp only at hlo; subst hlo; simp [Sem.run_bind]
    | some v => obtain ⟨kd, p, rfl, rfl⟩ := hlo; simp [Sem.run_bind, Instr.sliceBound, asIntOf, h1]
  | some v =>
    obtain ⟨kd, p, rfl, rfl⟩ := hhi
    cases lo with
    | none => simp only at hlo; subst hlo; simp [Sem.run_bind, Instr.sliceBound, asIntOf, h2]
    | some v => obtain ⟨kd, p, rfl, rfl⟩ := hlo; simp [Sem.run_bind, Instr.sliceBound, asIntOf, h1, h2]
theorem bnd_val {d l : Nat} {lo : Option Operand} {a : Act} (hf : Fr n L a) (h : bnd L d lo l) : match lo.map a.eval with | none => l = d | some v => ∃ kd p, v = .int kd p ∧ p = (l : Int) := by
  cases lo with
  | none => exact h
  | some x => obtain ⟨kd, p, hx, hp⟩ := h; exact ⟨kd, p, by simp [hf.eval hx], hp⟩
theorem Gets.sliceS {A A' : Option Addr} {len cap l h s : Nat} {lo hi : Option Operand} (ho : o.op = .slice t x lo hi none) (h1 : P.underlying t = some (.slice e)) (hsz : (P.info? e).map (·.size) = some s)
    (hx : ev L x = some (.slice A len cap)) (hlo : bnd L 0 lo l) (hhi : bnd L len hi h) (hlh : l ≤ h) (hhc : h ≤ cap) (hA : cutA A cap l s = A') {ln cp : Nat} (hln : h - l = ln) (hcp : cap - l = cp) : Gets P n w0 o L H (.slice A' ln cp) := fun a w hf hs => by
  subst hln; subst hcp
  simp only [execOp, ho, hf.eval hx]
  refine run_value ?_
  subst hA
  simp only [Instr.sliceAt, Instr.slice, Sem.run_bind, run_under h1, Result.andThen_ok, Option.map_none, run_bounds (bnd_val hf hlo) (bnd_val hf hhi) hlh hhc, run_size hsz, Sem.run_pure]
  rfl
theorem Gets.sliceA {b off len l h s : Nat} {A' : Option Addr} {lo hi : Option Operand} (ho : o.op = .slice t x lo hi none) (h1 : P.underlying t = some (.array len e)) (hsz : (P.info? e).map (·.size) = some s)
    (hx : ev L x = some (.pointer (some ⟨b, off, none⟩))) (hlo : bnd L 0 lo l) (hhi : bnd L len hi h) (hlh : l ≤ h) (hhc : h ≤ len) (hA : cutA (some ⟨b, off, none⟩) len l s = A') {ln cp : Nat} (hln : h - l = ln) (hcp : len - l = cp) : Gets P n w0 o L H (.slice A' ln cp) := fun a w hf hs => by
  subst hln; subst hcp
  simp only [execOp, ho, hf.eval hx]
  refine run_value ?_
  subst hA
  simp only [Instr.sliceAt, Instr.sureAddr, Sem.run_bind, run_under h1, Result.andThen_ok, Option.map_none, run_bounds (bnd_val hf hlo) (bnd_val hf hhi) hlh hhc, run_size hsz, Sem.run_pure]
  unfold cutA
  split <;> rfl
theorem Gets.sliceStr {str : ByteArray} {l h : Nat} {lo hi : Option Operand} (ho : o.op = .slice t x lo hi none) (h1 : P.underlying t = some .string)
    (hx : ev L x = some (.string str)) (hlo : bnd L 0 lo l) (hhi : bnd L str.size hi h) (hlh : l ≤ h) (hhc : h ≤ str.size) : Gets P n w0 o L H (.string (str.extract l h)) := fun a w hf hs => by
  simp only [execOp, ho, hf.eval hx]
  refine run_value ?_
  simp only [Instr.sliceAt, Instr.slice, Sem.run_bind, run_under h1, Result.andThen_ok, Option.map_none, Option.isSome_none, Bool.false_eq_true, if_false, run_bounds (bnd_val hf hlo) (bnd_val hf hhi) hlh hhc, Sem.run_pure]
theorem Gets.indexStr {str : ByteArray} {i : Nat} (ho : o.op = .index t x y) (h1 : P.underlying t = some .string) (hx : ev L x = some (.string str)) (hy : ev L y = some (.int kd p)) (hp : p = (i : Int)) (hi : i < str.size) :
    Gets P n w0 o L H (.int .u8 (str[i]'hi).toNat) := fun a w hf hs => by
  subst hp
  simp only [execOp, ho, hf.eval hx, hf.eval hy]
  refine run_value ?_
  simp only [Instr.index, asIntOf, Sem.run_bind, run_under h1, Result.andThen_ok, Sem.run_pure]
  rw [if_pos (by omega)]
  have : str[(i : Int).toNat]? = some str[i] := by simp [hi]
  rw [this]
  rfl
theorem Gets.extract {vs : Array Value} {ix : Nat} (ho : o.op = .extract x ix) (hx : ev L x = some (.tuple vs)) (hv : vs[ix]? = some v) : Gets P n w0 o L H v := fun a w hf hs => by
  simp only [execOp, ho, hf.eval hx, Instr.extract, hv]; rfl
theorem eqIn_pn (d : Nat) {ad : Addr} (h1 : P.underlying t = some (.pointer e)) (w : World) : (Op.equalIn (d + 1) t (.pointer (some ad)) (.pointer none)).run P w = .ok false w := by simp [Op.equalIn, Sem.run_bind, run_under h1]
theorem eqIn_nn (d : Nat) (h1 : P.underlying t = some (.pointer e)) (w : World) : (Op.equalIn (d + 1) t (.pointer none) (.pointer none)).run P w = .ok true w := by simp [Op.equalIn, Sem.run_bind, run_under h1]
theorem eqIn_bb (d : Nat) {b c : Bool} (h1 : P.underlying t = some .bool) (w : World) : (Op.equalIn (d + 1) t (.bool b) (.bool c)).run P w = .ok (b == c) w := by simp [Op.equalIn, Sem.run_bind, run_under h1]
theorem run_equal {b : Bool} {c d : Value} {w : World} (h : (Op.equalIn (9999 + 1) t c d).run P w = .ok b w) (hg : eqGuard .eql t x y c d = pure ()) (hb : binOp .eql t c d = (do pure (.bool (← Op.equal t c d)) : Sem Value)) :
    (do eqGuard .eql t x y c d; binOp .eql t c d : Sem Value).run P w = .ok (.bool b) w := by
  rw [hg, hb]
  have : Op.equal t c d = Op.equalIn (9999 + 1) t c d := rfl
  rw [this]
  simp only [Sem.run_bind, Sem.run_pure, Result.andThen_ok]
  generalize Op.equalIn (9999 + 1) t c d = s at *
  simp [h]
theorem Gets.ptrNil {ad : Addr} (ho : o.op = .binOp .eql t x y t') (h1 : P.underlying t = some (.pointer e)) (hx : ev L x = some (.pointer (some ad))) (hy : ev L y = some (.pointer none)) : Gets P n w0 o L H (.bool false) := fun a w hf hs => by
  simp only [execOp, ho, hf.eval hx, hf.eval hy]
  refine run_value ?_
  exact run_equal (eqIn_pn 9999 h1 w) rfl rfl
theorem Gets.nilNil (ho : o.op = .binOp .eql t x y t') (h1 : P.underlying t = some (.pointer e)) (hx : ev L x = some (.pointer none)) (hy : ev L y = some (.pointer none)) : Gets P n w0 o L H (.bool true) := fun a w hf hs => by
  simp only [execOp, ho, hf.eval hx, hf.eval hy]
  refine run_value ?_
  exact run_equal (eqIn_nn 9999 h1 w) rfl rfl
theorem Gets.boolEq {b c : Bool} (ho : o.op = .binOp .eql t x y t') (h1 : P.underlying t = some .bool) (hx : ev L x = some (.bool b)) (hy : ev L y = some (.bool c)) : Gets P n w0 o L H (.bool (b == c)) := fun a w hf hs => by
  simp only [execOp, ho, hf.eval hx, hf.eval hy]
  refine run_value ?_
  exact run_equal (eqIn_bb 9999 h1 w) rfl rfl
theorem Gets.strEq {b c : ByteArray} (ho : o.op = .binOp .eql t x y t') (hx : ev L x = some (.string b)) (hy : ev L y = some (.string c)) (hr : ∀ w, (Op.stringOp .eql b c).run P w = .ok v w) : Gets P n w0 o L H v := fun a w hf hs => by
  simp only [execOp, ho, hf.eval hx, hf.eval hy]
  refine run_value ?_
  simp [eqGuard, binOp, Sem.run_bind, hr]
theorem Gets.closed (h : ∀ a w, Fr n L a → St w0 H w → (execOp a.eval o).run P w = .ok (.value v) w) : Gets P n w0 o L H v := h
/-- Any pure operation over what the slots hold, whose run is known. -/
theorem Gets.build {parts : Array (Nat × Operand)} {vs : List (Nat × Value)} (ho : o.op = .build t parts) (hx : parts.toList.map (fun x => (x.1, ev L x.2)) = vs.map (fun x => (x.1, some x.2)))
    (hr : ∀ w, (Instr.build t vs.toArray).run P w = .ok v w) : Gets P n w0 o L H v := fun a w hf hs => by
  have : parts.map (fun (x : Nat × Operand) => (x.1, a.eval x.2)) = vs.toArray := by
    apply Array.toList_inj.1
    simp only [Array.toList_map, List.toList_toArray]
    generalize parts.toList = l at hx
    clear hr
    induction l generalizing vs with
    | nil => cases vs with
      | nil => rfl
      | cons => simp at hx
    | cons c l ih => cases vs with
      | nil => simp at hx
      | cons u us =>
        simp only [List.map_cons, List.cons.injEq, Prod.mk.injEq] at hx ⊢
        exact ⟨Prod.ext hx.1.1 (hf.eval hx.1.2), ih hx.2⟩
  simp only [execOp, ho]
  refine run_value ?_
  have h2 : (parts.map fun (x : Nat × Operand) => match x with | (i, x) => (i, a.eval x)) = vs.toArray := this
  rw [h2]
  exact hr w

/-! ### What turns the world -/
theorem TL.value {w1 : World → World} {H' : List Ent} (hg : Wants n ops L o) (hi : inside n o.dst = true) (h : ∀ a w, Fr n L a → St w0 H w → ∃ w', (execOp a.eval o).run P w = .ok (.value v) w' ∧ St w0 H' w')
    (hr : TL P ops Q n w0 rest (put L o.dst v) H') : TL P ops Q n w0 (o :: rest) L H :=
  fun a w hf hs => wpL_wants hg.nd (hg a hf) fun K hK => by
    obtain ⟨w', h1, h2⟩ := h a w hf hs
    unfold Oper.wp; rw [h1]
    exact hK _ _ (hr _ _ (hf.put o.dst v hi) h2)
theorem oneCell_cells {v : Value} (h : v.oneCell' = true) : v.cells = #[v] := by cases v <;> first | rfl | cases h
theorem TL.store1 {i g off : Nat} {ent : Ent} (hg : Wants n ops L o) (hd : o.dst = none) (ho : o.op = .store t x y) (hsz : (P.info? t).map (·.size) = some 1)
    (hx : ev L x = some (.pointer (some ⟨g, off, none⟩))) (hy : ev L y = some v) (hv : v.oneCell' = true) (hi : H[i]? = some ent) (he : ent.g = g) (hoff : off < ent.cs.length)
    {cs' : List Value} (hcs : ent.cs.set off v = cs') {H' : List Ent} (hH : H.set i ⟨ent.g, ent.t, cs', ent.tot⟩ = H') (hr : TL P ops Q n w0 rest L H') : TL P ops Q n w0 (o :: rest) L H :=
  fun a w hf hs => wpL_wants hg.nd (hg a hf) fun K hK => by
    subst he
    subst hcs
    subst hH
    have hrun : (execOp a.eval o).run P w = .ok .skip (w.setCell ⟨ent.g, off, none⟩ v) := by
      simp only [execOp, ho, hf.eval hx, hf.eval hy]
      refine run_unit ?_
      have hl := hs.has ent (List.mem_of_getElem? hi)
      have hc := hl.cell (o := off) (List.getElem?_eq_getElem hoff)
      have hfz := hl.free off
      simp only [Instr.storeAt, Instr.sureAddr, storeVar, Sem.run_bind, Sem.run_pure, Result.andThen_ok, run_size hsz, oneCell_cells hv]
      simp only [List.size_toArray, List.length_cons, List.length_nil, Nat.zero_add, ne_eq, not_true_eq_false, if_false, storeCells, Sem.run_bind, Addr.add, if_true, store]
      cases v <;> first | (simp [Value.oneCell'] at hv; done) | simp [Sem.run, hc, hfz]
    unfold Oper.wp; rw [hrun]
    exact hK _ _ (by rw [hd]; exact hr _ _ hf (hs.set hi off v))
theorem run_storeCells {i : Nat} {g : Nat} {ent : Ent} {off : Nat} : ∀ (vs : List Value) (d : Nat) (H : List Ent) (ent : Ent) (w : World), ent.g = g → St w0 H w → H[i]? = some ent → (∀ u ∈ vs, u.oneCell' = true) → off + d + vs.length ≤ ent.cs.length →
    ∃ w', (storeCells ⟨g, off, none⟩ vs d).run P w = .ok () w' ∧ St w0 (H.set i ⟨ent.g, ent.t, ent.cs.take (off + d) ++ vs ++ ent.cs.drop (off + d + vs.length), ent.tot⟩) w'
  | [], d, H, ent, w, he, hs, hi, _, hl => ⟨w, by simp [storeCells], by
      have : (⟨ent.g, ent.t, ent.cs.take (off + d) ++ [] ++ ent.cs.drop (off + d + 0), ent.tot⟩ : Ent) = ent := by simp
      simp only [List.length_nil]
      rw [this]
      have hset : H.set i ent = H := by
        obtain ⟨hil, rfl⟩ := List.getElem?_eq_some_iff.1 hi
        exact List.set_getElem_self hil
      rw [hset]; exact hs⟩
  | u :: vs, d, H, ent, w, he, hs, hi, h1, hl => by
    subst he
    simp only [List.length_cons] at hl
    have hle := hs.has ent (List.mem_of_getElem? hi)
    have hc := hle.cell (o := off + d) (List.getElem?_eq_getElem (by omega))
    have hfz := hle.free (off + d)
    have hu := h1 u (by simp)
    have hil : i < H.length := (List.getElem?_eq_some_iff.1 hi).1
    obtain ⟨w', hr, hs'⟩ := run_storeCells (i := i) (g := ent.g) (ent := ent) (off := off) vs (d + 1) (H.set i ⟨ent.g, ent.t, ent.cs.set (off + d) u, ent.tot⟩) ⟨ent.g, ent.t, ent.cs.set (off + d) u, ent.tot⟩ (w.setCell ⟨ent.g, off + d, none⟩ u) rfl
      (hs.set hi (off + d) u) (by simp [hil]) (fun c hc => h1 c (by simp [hc])) (by simp; omega)
    refine ⟨w', ?_, ?_⟩
    · unfold storeCells
      simp only [Sem.run_bind, addr_add, store]
      cases u <;> first | (simp [Value.oneCell'] at hu; done) | (simp only [Sem.run, hc, hfz, Result.andThen_ok]; simpa using hr)
    · rw [List.set_set] at hs'
      refine cast ?_ hs'
      congr 3
      simp only [List.length_cons]
      apply List.ext_getElem?
      intro j
      simp only [List.getElem?_append, List.getElem?_take, List.getElem?_drop, List.length_append, List.length_take, List.length_set, List.length_cons, List.getElem?_set]
      rcases Nat.lt_trichotomy j (off + d) with hj | hj | hj
      · have a1 : j < min (off + (d + 1)) ent.cs.length + vs.length := by omega
        have a2 : j < min (off + (d + 1)) ent.cs.length := by omega
        have a3 : j < off + (d + 1) := by omega
        have a4 : off + d ≠ j := by omega
        have a5 : j < min (off + d) ent.cs.length + (vs.length + 1) := by omega
        have a6 : j < min (off + d) ent.cs.length := by omega
        simp only [a1, a2, a3, a4, a5, a6, hj, if_true, if_false]
      · subst hj
        have a1 : off + d < min (off + (d + 1)) ent.cs.length + vs.length := by omega
        have a2 : off + d < min (off + (d + 1)) ent.cs.length := by omega
        have a3 : off + d < off + (d + 1) := by omega
        have a5 : off + d < min (off + d) ent.cs.length + (vs.length + 1) := by omega
        have a6 : ¬ off + d < min (off + d) ent.cs.length := by omega
        have a7 : off + d < ent.cs.length := by omega
        have a8 : off + d - min (off + d) ent.cs.length = 0 := by omega
        simp only [a1, a2, a3, a5, a6, a7, a8, if_true, if_false, List.getElem?_cons_zero]
      · by_cases hj2 : j < off + d + (vs.length + 1)
        · have a1 : j < min (off + (d + 1)) ent.cs.length + vs.length := by omega
          have a2 : ¬ j < min (off + (d + 1)) ent.cs.length := by omega
          have a5 : j < min (off + d) ent.cs.length + (vs.length + 1) := by omega
          have a6 : ¬ j < min (off + d) ent.cs.length := by omega
          have a8 : j - min (off + d) ent.cs.length = (j - min (off + (d + 1)) ent.cs.length) + 1 := by omega
          simp only [a1, a2, a5, a6, a8, if_true, if_false, List.getElem?_cons_succ]
        · have a1 : ¬ j < min (off + (d + 1)) ent.cs.length + vs.length := by omega
          have a5 : ¬ j < min (off + d) ent.cs.length + (vs.length + 1) := by omega
          have a4 : off + d ≠ off + (d + 1) + vs.length + (j - (min (off + (d + 1)) ent.cs.length + vs.length)) := by omega
          have a6 : off + (d + 1) + vs.length + (j - (min (off + (d + 1)) ent.cs.length + vs.length)) = off + d + (vs.length + 1) + (j - (min (off + d) ent.cs.length + (vs.length + 1))) := by omega
          simp only [a1, a5, a4, if_false]
          rw [a6]
theorem TL.storeN {i g off s : Nat} {ent : Ent} {vs : List Value} (hg : Wants n ops L o) (hd : o.dst = none) (ho : o.op = .store t x y) (hsz : (P.info? t).map (·.size) = some s)
    (hx : ev L x = some (.pointer (some ⟨g, off, none⟩))) (hy : ev L y = some (.agg vs.toArray)) (hl : vs.length = s) (h1 : ∀ u ∈ vs, u.oneCell' = true) (hi : H[i]? = some ent) (he : ent.g = g) (hoff : off + vs.length ≤ ent.cs.length)
    {cs' : List Value} (hcs : ent.cs.take off ++ vs ++ ent.cs.drop (off + vs.length) = cs') {H' : List Ent} (hH : H.set i ⟨ent.g, ent.t, cs', ent.tot⟩ = H') (hr : TL P ops Q n w0 rest L H') : TL P ops Q n w0 (o :: rest) L H :=
  fun a w hf hs => wpL_wants hg.nd (hg a hf) fun K hK => by
    subst hcs
    subst hH
    obtain ⟨w', hrun, hs'⟩ := run_storeCells (P := P) (i := i) (g := g) (ent := ent) (off := off) vs 0 H ent w he hs hi h1 (by simpa using hoff)
    have hrun' : (execOp a.eval o).run P w = .ok .skip w' := by
      simp only [execOp, ho, hf.eval hx, hf.eval hy]
      refine run_unit ?_
      simp only [Instr.storeAt, Instr.sureAddr, storeVar, Sem.run_bind, Sem.run_pure, Result.andThen_ok, run_size hsz]
      rw [if_neg (fun h => h (by simpa [Value.cells] using hl))]
      simpa [Value.cells] using hrun
    unfold Oper.wp; rw [hrun']
    exact hK _ _ (by rw [hd]; exact hr _ _ hf (by simpa using hs'))
/-- A whole block is written anew. -/
theorem TL.storeW {i g s : Nat} {ent : Ent} {vs : List Value} (hg : Wants n ops L o) (hd : o.dst = none) (ho : o.op = .store t x y) (hsz : (P.info? t).map (·.size) = some s)
    (hx : ev L x = some (.pointer (some ⟨g, 0, none⟩))) (hy : ev L y = some (.agg vs.toArray)) (hl : vs.length = s) (h1 : ∀ u ∈ vs, u.oneCell' = true) (hi : H[i]? = some ent) (he : ent.g = g) (hoff : ent.cs.length = s)
    {H' : List Ent} (hH : H.set i ⟨ent.g, ent.t, vs, ent.tot⟩ = H') (hr : TL P ops Q n w0 rest L H') : TL P ops Q n w0 (o :: rest) L H :=
  TL.storeN hg hd ho hsz hx hy hl h1 hi he (by omega) (cs' := vs) (by
    have h2 : ent.cs.drop (0 + vs.length) = [] := List.drop_of_length_le (by omega)
    rw [h2]; simp) hH hr

theorem TL.alloc {cs : List Value} {zv : Value} (hg : Wants n ops L o) (hi : inside n o.dst = true) (ho : o.op = .alloc t) (hz : (P.info? t).bind (·.zero) = some zv) (hcs : zv.cells.toList = cs) {tot : Nat} (htot : cs.length = tot)
    (hr : ∀ g, w0.heap.size ≤ g → TL P ops Q n w0 rest (put L o.dst (.pointer (some ⟨g, 0, none⟩))) (⟨g, t, cs, tot⟩ :: H)) : TL P ops Q n w0 (o :: rest) L H :=
  fun a w hf hs => wpL_wants hg.nd (hg a hf) fun K hK => by
    have hrun : (execOp a.eval o).run P w = .ok (.value (.pointer (some ⟨w.heap.size, 0, none⟩))) (w.alloc (.cells zv.cells t)) := by
      simp only [execOp, ho]
      refine run_value ?_
      simp only [Instr.alloc, Sem.run_bind, run_zero hz, Result.andThen_ok]
      simp [newVar, newRow, newObj, Sem.run_bind, Sem.run]
    unfold Oper.wp; rw [hrun]
    subst htot; exact hK _ _ (hr _ hs.size _ _ (hf.put o.dst _ hi) (hs.alloc t cs zv.cells hcs))
theorem TL.box {cs : List Value} (hg : Wants n ops L o) (hi : inside n o.dst = true) (ho : o.op = .box t x) (hx : ev L x = some v) (hcs : v.cells.toList = cs) {tot : Nat} (htot : cs.length = tot)
    (hr : ∀ g, w0.heap.size ≤ g → TL P ops Q n w0 rest (put L o.dst (.pointer (some ⟨g, 0, none⟩))) (⟨g, t, cs, tot⟩ :: H)) : TL P ops Q n w0 (o :: rest) L H :=
  fun a w hf hs => wpL_wants hg.nd (hg a hf) fun K hK => by
    have hrun : (execOp a.eval o).run P w = .ok (.value (.pointer (some ⟨w.heap.size, 0, none⟩))) (w.alloc (.cells v.cells t)) := by
      simp only [execOp, ho, hf.eval hx]
      refine run_value ?_
      simp [Instr.box, newVar, newRow, newObj, Sem.run_bind, Sem.run]
    unfold Oper.wp; rw [hrun]
    subst htot; exact hK _ _ (hr _ hs.size _ _ (hf.put o.dst _ hi) (hs.alloc t cs v.cells hcs))

/-! ### Numbers -/
theorem w64 {a r : Int} (h : a = r) (hb : -9223372036854775808 ≤ r ∧ r ≤ 9223372036854775807) : IntKind.i64.wrap a = r := by subst h; exact IntWalk.i64_in _ hb
theorem wu64 {a r : Int} (h : a = r) (hb : 0 ≤ r ∧ r ≤ 18446744073709551615) : IntKind.u64.wrap a = r := by subst h; exact IntWalk.u64_in _ hb
theorem wu32 {a r : Int} (h : a = r) (hb : 0 ≤ r ∧ r ≤ 4294967295) : IntKind.u32.wrap a = r := by subst h; exact IntWalk.u32_in _ hb
theorem wu8 {a r : Int} (h : a = r) (hb : 0 ≤ r ∧ r ≤ 255) : IntKind.u8.wrap a = r := by subst h; exact IntWalk.u8_in _ hb
theorem tmod_pos {a b r : Int} (ha : 0 ≤ a) (h : a % b = r) : a.tmod b = r := by rw [Int.tmod_eq_emod_of_nonneg ha]; exact h
theorem tdiv_pos {kd : IntKind} {a b r : Int} (ha : 0 ≤ a) (h : kd.wrap (a / b) = r) : kd.wrap (a.tdiv b) = r := by rw [Int.tdiv_eq_ediv_of_nonneg ha]; exact h

/-! ### Rows of numbers -/
theorem ints_get {kd : IntKind} {W : List Int} {i : Nat} (h : i < W.length) : (W.map (Value.int kd))[i]? = some (.int kd (W.getD i 0)) := by simp [h]
theorem ints_set {kd : IntKind} {W : List Int} {i : Nat} {x : Int} : (W.map (Value.int kd)).set i (.int kd x) = (W.set i x).map (Value.int kd) := by rw [List.map_set]
theorem ints_one {kd : IntKind} {W : List Int} : ∀ u ∈ W.map (Value.int kd), u.oneCell' = true := by
  intro u hu
  obtain ⟨x, _, rfl⟩ := List.mem_map.1 hu
  rfl
theorem ints_len {kd : IntKind} {W : List Int} {n : Nat} (h : W.length = n) : (W.map (Value.int kd)).length = n := by simpa using h
theorem arr_get {l : List Value} {i : Nat} {v : Value} (h : l[i]? = some v) : l.toArray[i]? = some v := by simpa using h
theorem app_left {A B : List Value} {i : Nat} {v : Value} (h : A[i]? = some v) : (A ++ B)[i]? = some v := by
  have := (List.getElem?_eq_some_iff.1 h).1
  rw [List.getElem?_append_left this]; exact h
theorem app_right {A B : List Value} {a i : Nat} {v : Value} (ha : A.length = a) (h : B[i]? = some v) : (A ++ B)[a + i]? = some v := by
  subst ha; rw [List.getElem?_append_right (by omega)]; simpa using h

def addW (kd : IntKind) (a b : Int) : Int := kd.wrap (a + b)
def subW (kd : IntKind) (a b : Int) : Int := kd.wrap (a - b)
def mulW (kd : IntKind) (a b : Int) : Int := kd.wrap (a * b)
def cplI (kd : IntKind) (p : Int) : Int := xorI kd (if kd.signed then -1 else kd.max) p
theorem Gets.addU (ho : o.op = .binOp .add t x y t') (hx : ev L x = some (.int kd p)) (hy : ev L y = some (.int kd q)) : Gets P n w0 o L H (.int kd (addW kd p q)) := Gets.add ho hx hy rfl
theorem Gets.subU (ho : o.op = .binOp .sub t x y t') (hx : ev L x = some (.int kd p)) (hy : ev L y = some (.int kd q)) : Gets P n w0 o L H (.int kd (subW kd p q)) := Gets.sub ho hx hy rfl
theorem Gets.mulU (ho : o.op = .binOp .mul t x y t') (hx : ev L x = some (.int kd p)) (hy : ev L y = some (.int kd q)) : Gets P n w0 o L H (.int kd (mulW kd p q)) := Gets.mul ho hx hy rfl
theorem Gets.cplU (ho : o.op = .unOp .xor t x) (hx : ev L x = some (.int kd p)) : Gets P n w0 o L H (.int kd (cplI kd p)) := Gets.cpl ho hx rfl
theorem Gets.notP {p : Prop} [Decidable p] (ho : o.op = .unOp .not t x) (hx : ev L x = some (.bool (decide p))) : Gets P n w0 o L H (.bool (decide (¬ p))) := by
  rw [decide_not]; exact Gets.not ho hx
theorem set_left {A A' B : List Value} {i : Nat} {v : Value} (hi : i < A.length) (h : A.set i v = A') : (A ++ B).set i v = A' ++ B := by subst h; exact List.set_append_left _ _ hi
theorem set_right {A B B' : List Value} {a i : Nat} {v : Value} (ha : A.length = a) (h : B.set i v = B') : (A ++ B).set (a + i) v = A ++ B' := by
  subst h; subst ha; rw [List.set_append_right _ _ (by omega)]; simp
theorem ones_app {A B : List Value} (ha : ∀ u ∈ A, u.oneCell' = true) (hb : ∀ u ∈ B, u.oneCell' = true) : ∀ u ∈ A ++ B, u.oneCell' = true := by
  intro u hu
  rcases List.mem_append.1 hu with h | h
  · exact ha u h
  · exact hb u h
/-- A block that came in is taken among the entries. -/
theorem St.take {w : World} {ent : Ent} (hs : St w0 H w) (hl : ent.lies w0) (hne : ∀ e ∈ H, e.g ≠ ent.g) : St w0 (ent :: H) w :=
  ⟨hs.os, hs.tape, hs.output, hs.size, fun e he => by
    rcases List.mem_cons.1 he with rfl | he
    · exact hl.of_block (hs.old _ hl.lt hne)
    · exact hs.has e he, fun b hb h => hs.old b hb fun e he => h e (by simp [he]), .cons (fun e he => (hne e he).symm) hs.apart⟩

theorem Sub.int {L L' : List (Nat × Value)} {i : Nat} {kd : IntKind} {a b : Int} (h : look L i = some (.int kd a)) (hab : a = b) (hs : Sub L' L) : Sub ((i, .int kd b) :: L') L := by subst hab; exact Sub.cons h hs
theorem Sub.slice {L L' : List (Nat × Value)} {i : Nat} {A A' : Option Addr} {a b c d : Nat} (h : look L i = some (.slice A a c)) (hA : A = A') (hab : a = b) (hcd : c = d) (hs : Sub L' L) : Sub ((i, .slice A' b d) :: L') L := by subst hA; subst hab; subst hcd; exact Sub.cons h hs

/-! ### Calls -/
def Enters (P : Program) (f : FuncId) : Prop := ∃ fn, P.funcs[f]? = some fn ∧ (fn.name == "runtime.NumGoroutine") = false ∧ fn.body.isNone = false
theorem run_call {f : FuncId} (h : Enters P f) (args : Array Value) (w : World) : (callFunc f args).run P w = .ok (.enter f args) w := by
  obtain ⟨fn, h1, h2, h3⟩ := h
  simp only [callFunc, program, Sem.run_bind, Sem.run, Result.andThen_ok, h1, h2, h3, Bool.false_eq_true, if_false]
  rfl
theorem run_enter {f : FuncId} {xs : List Operand} {ts : Array TypeId} {vs : List Value} {a : Act} {w : World} (h : Enters P f) (ho : o.op = .call { callee := .value (.func f), args := xs.toArray, argTypes := ts }) (hf : Fr n L a) (hx : evs L xs = some vs) :
    (execOp a.eval o).run P w = .ok (.enter f vs.toArray) w := by
  have hm := hf.evals hx
  simp only [execOp, ho, resolve, Act.eval, Deferred.ofValue, Sem.run_bind, Sem.run_pure, Result.andThen_ok, List.map_toArray, hm, invoke]
  simp [run_call h]
theorem TL.call {ι : Type} {f : FuncId} {xs : List Operand} {ts : Array TypeId} {vs : List Value} {V : ι → Value} {R : ι → Prop} {H' : ι → List Ent} (hg : Wants n ops L o) (hi : inside n o.dst = true) (h : Enters P f)
    (ho : o.op = .call { callee := .value (.func f), args := xs.toArray, argTypes := ts }) (hx : evs L xs = some vs)
    (hc : ∀ w, St w0 H w → Calls P f vs.toArray w fun e w' => ∃ i, e = .returned (V i) ∧ R i ∧ St w0 (H' i) w')
    (hr : ∀ i, R i → TL P ops Q n w0 rest (put L o.dst (V i)) (H' i)) : TL P ops Q n w0 (o :: rest) L H :=
  fun a w hf hs => wpL_wants hg.nd (hg a hf) fun K hK => by
    unfold Oper.wp; rw [run_enter h ho hf hx]
    refine (hc w hs).mono ?_
    rintro e w' ⟨i, rfl, hR, hs'⟩
    exact hK _ _ (hr i hR _ _ (hf.put o.dst _ hi) hs')
/-- A call that ends with one value and leaves all known blocks. -/
theorem TL.call0 {f : FuncId} {xs : List Operand} {ts : Array TypeId} {vs : List Value} (hg : Wants n ops L o) (hi : inside n o.dst = true) (h : Enters P f)
    (ho : o.op = .call { callee := .value (.func f), args := xs.toArray, argTypes := ts }) (hx : evs L xs = some vs)
    (hc : ∀ w, St w0 H w → Calls P f vs.toArray w fun e w' => e = .returned v ∧ St w [] w')
    (hr : TL P ops Q n w0 rest (put L o.dst v) H) : TL P ops Q n w0 (o :: rest) L H :=
  TL.call (ι := Unit) (V := fun _ => v) (R := fun _ => True) (H' := fun _ => H) hg hi h ho hx (fun w hs => (hc w hs).mono fun e w' ⟨he, hw⟩ => ⟨(), he, trivial, hs.call' hw⟩) fun _ _ => hr
theorem TS.call0 {f : FuncId} {xs : List Operand} {ts : Array TypeId} {vs : List Value} (hg : Wants n ops L o) (hi : inside n o.dst = true) (h : Enters P f)
    (ho : o.op = .call { callee := .value (.func f), args := xs.toArray, argTypes := ts }) (hx : evs L xs = some vs)
    (hc : ∀ w, St w0 H w → Calls P f vs.toArray w fun e w' => e = .returned v ∧ St w [] w')
    (hr : TS P ops Q n w0 k m rest (put L o.dst v) H) : TS P ops Q n w0 k (m + 1) (o :: rest) L H :=
  fun a hf => SeqM.call (hg a hf) (fun w _ => run_enter h ho hf hx) (fun w hs => (hc w hs).mono fun e w' ⟨he, hw⟩ => ⟨he, hs.call' hw⟩) (hr _ (hf.put o.dst v hi))

/-! ### A function's contract -/
theorem fr_args {args : List Value} {N : Nat} {md : Md} (hl : args.length ≤ N) : Fr ⟨N, [], md⟩ (args.zipIdx.map fun x => (x.2, x.1)) { tmps := args.toArray ++ Array.replicate (N - args.toArray.size) undef, defers := [] } := by
  refine ⟨rfl, by simp; omega, ?_⟩
  intro i v hi
  have key : ∀ (l : List Value) (k : Nat), look ((l.zipIdx k).map fun x => (x.2, x.1)) i = some v → k ≤ i ∧ l[i - k]? = some v := by
    intro l
    induction l with
    | nil => intro k h; simp [look] at h
    | cons c l ih =>
      intro k h
      simp only [List.zipIdx_cons, List.map_cons, look] at h
      cases hb : Nat.beq i k with
      | true => rw [hb] at h; have := Nat.eq_of_beq_eq_true hb; subst this; simp at h; simp [h]
      | false =>
        rw [hb] at h
        obtain ⟨h1, h2⟩ := ih (k + 1) h
        refine ⟨by omega, ?_⟩
        rw [show i - k = (i - (k + 1)) + 1 by omega]
        simpa using h2
  obtain ⟨_, h2⟩ := key args 0 hi
  have hlt : i < args.length := (List.getElem?_eq_some_iff.1 h2).1
  simp only [Nat.sub_zero] at h2
  have h3 : args[i] = v := by rw [List.getElem?_eq_getElem hlt] at h2; exact Option.some.inj h2
  simp [Array.getElem?_append, hlt, h3]
theorem calls_from {f : FuncId} {fn : Func} {c : Code} {args : List Value} {w : World} {R : Ending → World → Prop} {N : Nat} (hf : P.funcs[f]? = some fn) (hb : fn.body = some c) (hN : fn.ntmps = N) (hl : args.length ≤ N)
    (h : TC P (bodyPost P fn R) ⟨N, [], .plain⟩ w c (args.zipIdx.map fun x => (x.2, x.1)) []) : Calls P f args.toArray w R := by
  subst hN
  exact calls_of_wp hf hb (h _ w (fr_args hl) (St.refl w))

theorem TE.ret1 {fn : Func} {R : Ending → World → Prop} {i : Nat} (hres : fn.results = #[.tmp i]) (hx : look L i = some v) (h : ∀ w, St w0 H w → R (.returned v) w) (hds : n.ds = [] := by rfl) : TE (bodyPost P fn R) .ret n w0 L H := fun a w hf hs =>
  ⟨hf.1.trans hds, v, by rw [results_tmp hres]; simp [Array.getD_eq_getD_getElem?, hf.2.2 i v hx], h w hs⟩
theorem TE.end1 {fn : Func} {R : Ending → World → Prop} {i : Nat} (hres : fn.results = #[.tmp i]) (hx : look L i = some v) (h : ∀ w, St w0 H w → R (.returned v) w) (hds : n.ds = [] := by rfl) : TE (bodyPost P fn R) .normal n w0 L H := fun a w hf hs =>
  ⟨hf.1.trans hds, v, by rw [results_tmp hres]; simp [Array.getD_eq_getD_getElem?, hf.2.2 i v hx], h w hs⟩
theorem TE.ret2 {fn : Func} {R : Ending → World → Prop} {i j : Nat} (hres : fn.results = #[.tmp i, .tmp j]) (hx : look L i = some v) (hy : look L j = some u) (h : ∀ w, St w0 H w → R (.returned (.tuple #[v, u])) w) (hds : n.ds = [] := by rfl) : TE (bodyPost P fn R) .ret n w0 L H := fun a w hf hs =>
  ⟨hf.1.trans hds, _, by rw [results_tmp2 hres]; simp [Array.getD_eq_getD_getElem?, hf.2.2 i v hx, hf.2.2 j u hy], h w hs⟩
theorem TE.ret0 {fn : Func} {R : Ending → World → Prop} (hres : fn.results = #[]) (h : ∀ w, St w0 H w → R (.returned (.tuple #[])) w) (hds : n.ds = [] := by rfl) : TE (bodyPost P fn R) .ret n w0 L H := fun a w hf hs =>
  ⟨hf.1.trans hds, _, results_none hres _ _ _, h w hs⟩
theorem TE.end0 {fn : Func} {R : Ending → World → Prop} (hres : fn.results = #[]) (h : ∀ w, St w0 H w → R (.returned (.tuple #[])) w) (hds : n.ds = [] := by rfl) : TE (bodyPost P fn R) .normal n w0 L H := fun a w hf hs =>
  ⟨hf.1.trans hds, _, results_none hres _ _ _, h w hs⟩
/-- The result lies in memory, in a block of the call's own. -/
theorem TE.retC {fn : Func} {R : Ending → World → Prop} {i g off s : Nat} {vs : List Value} (hres : fn.results = #[.cell i t]) (hag : (isAgg t).run P = fun w => .ok true w) (hsz : (P.info? t).map (·.size) = some s)
    (hx : look L i = some (.pointer (some ⟨g, off, none⟩))) (hl : vs.length = s) (hc : Row w0 H g off vs) (h : ∀ w, St w0 H w → R (.returned (.agg vs.toArray)) w) (hds : n.ds = [] := by rfl) : TE (bodyPost P fn R) .ret n w0 L H := fun a w hf hs => by
  refine ⟨hf.1.trans hds, .agg vs.toArray, ?_, h w hs⟩
  have h1 : (a.tmps.getD i undef) = .pointer (some ⟨g, off, none⟩) := by simp [Array.getD_eq_getD_getElem?, hf.2.2 i _ hx]
  have h2 := run_loadCells (P := P) (w := w) (b := g) (off := off) s 0 #[] vs hl (fun j u hu => by rw [Nat.zero_add]; exact hc w hs j u hu)
  simp only [results, hres]
  simp [Sem.run_bind, loadVar, hag, run_size hsz, loadCells]
  simp only [Array.getD_eq_getD_getElem?] at h1
  simp [h1, asAddr, h2]
theorem TE.endC {fn : Func} {R : Ending → World → Prop} {i g off s : Nat} {vs : List Value} (hres : fn.results = #[.cell i t]) (hag : (isAgg t).run P = fun w => .ok true w) (hsz : (P.info? t).map (·.size) = some s)
    (hx : look L i = some (.pointer (some ⟨g, off, none⟩))) (hl : vs.length = s) (hc : Row w0 H g off vs) (h : ∀ w, St w0 H w → R (.returned (.agg vs.toArray)) w) (hds : n.ds = [] := by rfl) : TE (bodyPost P fn R) .normal n w0 L H := fun a w hf hs =>
  TE.retC hres hag hsz hx hl hc h hds a w hf hs
end
attribute [irreducible] andI orI xorI clrI shlI shrI addW subW mulW cplI
end Go.Proofs.Ytdllgfkcakhoeaa
