/-
 Contracts of the reference: Len, Target, Source, Check, Overlaps.
-/
import Derived.Test.YtegddcklbmonfaaGreatDoorYBytesPa
import Derived.Test.YtegddcklbmonfaaGreatDoorProg
import Derived.SizedLaws
import Derived.Below
import Derived.Test.YtegddcklbmonfaaGreatDoorRows
/-
 Two arrays of numbers, compared.
-/
namespace Go.Proofs.YtegddcklbmonfaaGreatDoor
set_option maxRecDepth 100000
set_option maxHeartbeats 2000000
open Go.Value (int slice)
set_option linter.unusedVariables false
set_option linter.unusedSimpArgs false
open Go Go.RowKit
section
variable {P : Program} {ops : Array Oper} {Q : Exit → Act → World → Prop} {n : Sz} {w0 : World} {L L' : List (Nat × Value)} {H : List Ent}
variable {o : Oper} {rest : List Oper} {v u : Value} {x y z : Operand} {k m j : Nat} {t t' e : TypeId} {ks : List Nat} {kd : IntKind} {p q : Int}
end
/-
 Steps that need no word: what an operation gets is found by its form.
-/
class Sli (P : Program) (t : TypeId) (e : outParam TypeId) : Prop where
 h : P.underlying t = some (.slice e)
class Siz (P : Program) (t : TypeId) (s : outParam Nat) : Prop where
 h : (P.info? t).map (·.size) = some s
class AgY (P : Program) (t : TypeId) : Prop where
 h : (isAgg t).run P = fun w => .ok true w
class AgN (P : Program) (t : TypeId) : Prop where
 h : (isAgg t).run P = fun w => .ok false w
class Fld (P : Program) (t : TypeId) (f : Nat) (k : outParam Nat) : Prop where
 h : ∃ fields fl s, P.underlying t = some (.struct fields) ∧ fields[f]? = some fl ∧ (P.info? fl.type).map (·.size) = some (s + 1) ∧ fl.offset = k
class Zer (P : Program) (t : TypeId) (cs : outParam (List Value)) : Prop where
 h : ∃ zv, (P.info? t).bind (·.zero) = some zv ∧ zv.cells.toList = cs
inductive SelI : List Nat → List (Nat × Value) → List (Nat × Value) → Prop
 | nil {L : List (Nat × Value)} : SelI [] L []
 | cons {k : Nat} {ks : List Nat} {L : List (Nat × Value)} {v : Value} {L' : List (Nat × Value)} (h : look L k = some v) (hr : SelI ks L L') : SelI (k :: ks) L ((k, v) :: L')
inductive SetI : List Ent → Nat → Ent → List Ent → Prop
 | zero {a : Ent} {l : List Ent} {e : Ent} : SetI (a :: l) 0 e (e :: l)
 | succ {a : Ent} {l : List Ent} {i : Nat} {e : Ent} {l' : List Ent} (h : SetI l i e l') : SetI (a :: l) (i + 1) e (a :: l')
section
variable {P : Program} {ops : Array Oper} {Q : Exit → Act → World → Prop} {n : Sz} {w0 : World} {L L' : List (Nat × Value)} {H H' : List Ent}
variable {o : Oper} {rest : List Oper} {v u : Value} {x y z : Operand} {k m j : Nat} {t t' e : TypeId} {kd : IntKind} {p q : Int}
theorem Gets.fa0 {f b : Nat} [F : Fld P t f k] (ho : o.op = .fieldAddr t x f) (hx : ev L x = some (.pointer (some ⟨b, 0, none⟩))) : Gets P n w0 o L H (.pointer (some ⟨b, k, none⟩)) := by
 obtain ⟨fields, fl, s, h1, h2, h3, h4⟩ := F.h
 exact zI ho h1 h2 h3 hx (by omega)
theorem dl66 {a b s : Value} {H1 H2 : List Int} {kd : IntKind} (h1 : H1.length = 32) (h2 : H2.length = 32) : ([a, b] ++ (H1.map (int kd) ++ (H2.map (int kd) ++ [s])))[66]? = some s :=
 app_right (a := 2) (i := 64) rfl (app_right (a := 32) (i := 32) (ints_len h1) (app_right (a := 32) (i := 0) (ints_len h2) rfl))
theorem Gets.loadD {b off s : Nat} {vs : List Value} (ho : o.op = .load t x) (hag : (isAgg t).run P = fun w => .ok true w) (hsz : (P.info? t).map (·.size) = some s) (hx : ev L x = some (.pointer (some ⟨b, off, none⟩))) (hc : Row w0 H b off vs) (hl : vs.length = s) : Gets P n w0 o L H (.agg vs.toArray) := qj ho hag hsz hx hl hc
theorem dlLen {a b s : Value} {H1 H2 : List Int} {kd : IntKind} (h1 : H1.length = 32) (h2 : H2.length = 32) : ([a, b] ++ (H1.map (int kd) ++ (H2.map (int kd) ++ [s]))).length = 67 := by simp [h1, h2]
def Stp (P : Program) (ops : Array Oper) (n : Sz) (w0 : World) (o : Oper) (L : List (Nat × Value)) (H : List Ent) (v : Value) : Prop :=
 inside n o.dst = true ∧ ((Wants n ops L o ∧ Gets P n w0 o L H v) ∨ (v = undef ∧ ∀ a, Fr n L a → Region.wanted o (yielded ops a.tmps) = false))
theorem Stp.ps {d : Nat} {b c : Bool} (h : o.guard = some (j, c)) (hj : (ops[j]?).bind (·.dst) = some d) (hd : look L d = some (.bool b)) (hi : inside n o.dst = true) (hb : b = !c) : Stp P ops n w0 o L H undef :=
 ⟨hi, .inr ⟨rfl, fun a hf => by subst hb; simp [Region.wanted, h, guard_val hf hj hd]⟩⟩
theorem Stp.pu {d : Nat} {c : Bool} (h : o.guard = some (j, c)) (hj : (ops[j]?).bind (·.dst) = some d) (hd : look L d = some undef) (hi : inside n o.dst = true) : Stp P ops n w0 o L H undef :=
 ⟨hi, .inr ⟨rfl, fun a hf => by simp [Region.wanted, h, guard_undef hf hj hd]⟩⟩
theorem TL.stp (h : Stp P ops n w0 o L H v) (hr : TL P ops Q n w0 rest (put L o.dst v) H) : TL P ops Q n w0 (o :: rest) L H := by
 obtain ⟨hi, ⟨hg, hgt⟩ | ⟨rfl, hw⟩⟩ := h
 ·exact qB hg hi hgt hr
 ·exact fun a w hf hs => wpL_pass (hw a hf) (hr _ _ (hf.put o.dst undef hi) hs)
theorem Gets.au (h : Gets P n w0 o L H v := by
  first
  | exact qu rfl rfl
  | exact Gets.assign rfl rfl
  | exact Gets.fa0 rfl rfl
  | exact qN rfl AgN.h rfl (by first | exact qU (i := 0) rfl rfl rfl | exact qU (i := 1) rfl rfl rfl | exact qU (i := 2) rfl rfl rfl | exact qU (i := 3) rfl rfl rfl | exact qU (i := 4) rfl rfl rfl | exact qU (i := 5) rfl rfl rfl | exact qU (i := 0) rfl rfl (dl66 (by assumption) (by assumption)) | exact qU (i := 1) rfl rfl (dl66 (by assumption) (by assumption)) | exact qU (i := 2) rfl rfl (dl66 (by assumption) (by assumption)) | exact qU (i := 3) rfl rfl (dl66 (by assumption) (by assumption)))
  | exact qj rfl AgY.h Siz.h rfl rfl (by first | exact qW (i := 0) rfl rfl rfl | exact qW (i := 1) rfl rfl rfl | exact qW (i := 2) rfl rfl rfl | exact qW (i := 3) rfl rfl rfl | exact qW (i := 4) rfl rfl rfl | exact qW (i := 5) rfl rfl rfl)
  | exact Gets.loadD rfl AgY.h Siz.h rfl (by first | exact qW (i := 0) rfl rfl rfl | exact qW (i := 1) rfl rfl rfl | exact qW (i := 2) rfl rfl rfl | exact qW (i := 3) rfl rfl rfl) (dlLen (by assumption) (by assumption))
  | exact Gets.pickT rfl rfl rfl
  | exact Gets.pickF rfl rfl rfl
  | exact Gets.notP rfl rfl
  | exact Gets.not rfl rfl
  | exact qm rfl rfl rfl
  | exact qg rfl rfl rfl
  | exact Gets.neq rfl rfl rfl
  | exact Gets.leq rfl rfl rfl
  | exact zA rfl rfl rfl
  | exact Gets.geq rfl rfl rfl
  | exact Gets.lenSlice rfl Sli.h rfl
  | exact Gets.extract rfl rfl rfl) : Gets P n w0 o L H v := h
theorem Wants.au (h : Wants n ops L o := by first | exact qA rfl | exact qI rfl rfl rfl) : Wants n ops L o := h
theorem SelI.sub {ks : List Nat} (h : SelI ks L L') : Sub L' L := by
 induction h with
 | nil => exact qO
 | cons h _ ih => exact qK h ih
theorem TC.pr {c : Code} (ks : List Nat) (hr : TC P Q n w0 c L' H) (h : SelI ks L L' := by repeat (first | exact SelI.nil | exact rfl | apply SelI.cons)) : TC P Q n w0 c L H := TC.sub h.sub hr
abbrev qC := @TC.pr
theorem SetI.eq {e : Ent} {i : Nat} (h : SetI H i e H') : H.set i e = H' := by
 induction h with
 | zero => rfl
 | succ _ ih => rw [List.set_cons_succ, ih]
theorem ones_all {vs : List Value} (h : vs.all (·.oneCell') = true) : ∀ u ∈ vs, u.oneCell' = true := fun u hu => List.all_eq_true.1 h u hu
theorem TL.bxA {cs : List Value} {tot : Nat} (hr : ∀ g, w0.heap.size ≤ g → TL P ops Q n w0 rest (put L o.dst (.pointer (some ⟨g, 0, none⟩))) (⟨g, t, cs, tot⟩ :: H)) (hg : Wants n ops L o := by exact qA rfl) (hi : inside n o.dst = true := by rfl) (ho : o.op = .box t x := by rfl) (hx : ev L x = some (.agg cs.toArray) := by rfl)
  (htot : cs.length = tot := by rfl) : TL P ops Q n w0 (o :: rest) L H := qr hg hi ho hx (by simp [Value.cells]) htot hr
abbrev qc := @TL.bxA
theorem TL.bx1 (hr : ∀ g, w0.heap.size ≤ g → TL P ops Q n w0 rest (put L o.dst (.pointer (some ⟨g, 0, none⟩))) (⟨g, t, [v], 1⟩ :: H)) (hg : Wants n ops L o := by exact qA rfl) (hi : inside n o.dst = true := by rfl) (ho : o.op = .box t x := by rfl) (hx : ev L x = some v := by rfl)
  (hv : v.cells = #[v] := by rfl) : TL P ops Q n w0 (o :: rest) L H := qr hg hi ho hx (by rw [hv]) rfl hr
theorem TL.al {cs : List Value} {tot : Nat} [Z : Zer P t cs] (hr : ∀ g, w0.heap.size ≤ g → TL P ops Q n w0 rest (put L o.dst (.pointer (some ⟨g, 0, none⟩))) (⟨g, t, cs, tot⟩ :: H)) (hg : Wants n ops L o := by exact qA rfl) (hi : inside n o.dst = true := by rfl) (ho : o.op = .alloc t := by rfl)
  (htot : cs.length = tot := by rfl) : TL P ops Q n w0 (o :: rest) L H := by
 obtain ⟨zv, h1, h2⟩ := Z.h
 exact TL.alloc hg hi ho h1 h2 htot hr
abbrev qZ := @TL.al
theorem TL.sW {g s : Nat} {ent : Ent} {vs : List Value} (i : Nat) [hsz : Siz P t s] (ho : o.op = .store t x y) (hd : o.dst = none) (hx : ev L x = some (.pointer (some ⟨g, 0, none⟩))) (hi : H[i]? = some ent) (he : ent.g = g) (hy : ev L y = some (.agg vs.toArray)) (hl : vs.length = s) (h1 : vs.all (·.oneCell') = true) (hoff : ent.cs.length = s)
  (hH : SetI H i ⟨ent.g, ent.t, vs, ent.tot⟩ H') (hg : Wants n ops L o) (hr : TL P ops Q n w0 rest L H') : TL P ops Q n w0 (o :: rest) L H := TL.storeW hg hd ho hsz.h hx hy hl (ones_all h1) hi he hoff hH.eq hr
theorem TE.thenm {m : Md} {y : Code} {Q' : Exit → Act → World → Prop} (hm : n.md = m) (h : TC P Q n w0 y L H) : TE (Exit.then (wpn m P y Q) Q') .normal n w0 L H := by subst hm; exact TE.then h
theorem gx {A B : Prop} (b : B) (h : B → A := by
  first
  | with_reducible exact TL.nil
  | with_reducible exact TC.regionL
  | with_reducible exact TC.seq
  | with_reducible exact TC.block
  | with_reducible exact TC.skip
  | with_reducible exact TC.ret
  | with_reducible exact TC.exit
  | with_reducible exact TE.thenm (by with_unfolding_all exact rfl)
  | with_reducible exact TE.thenR
  | with_reducible exact TE.thenX
  | with_reducible exact TE.blockN
  | with_reducible exact TE.blockR
  | with_reducible exact TE.blockX
  | exact qB Wants.au rfl Gets.au
  | exact TL.stp (Stp.ps rfl rfl rfl rfl rfl)
  | exact TL.stp (Stp.pu rfl rfl rfl rfl)
  | exact TL.sW 0 rfl rfl rfl rfl rfl rfl rfl rfl rfl (by repeat (first | exact SetI.zero | apply SetI.succ)) Wants.au
  | exact TL.sW 1 rfl rfl rfl rfl rfl rfl rfl rfl rfl (by repeat (first | exact SetI.zero | apply SetI.succ)) Wants.au
  | exact TL.sW 2 rfl rfl rfl rfl rfl rfl rfl rfl rfl (by repeat (first | exact SetI.zero | apply SetI.succ)) Wants.au
  | exact TL.sW 3 rfl rfl rfl rfl rfl rfl rfl rfl rfl (by repeat (first | exact SetI.zero | apply SetI.succ)) Wants.au
  | exact TL.sW 4 rfl rfl rfl rfl rfl rfl rfl rfl rfl (by repeat (first | exact SetI.zero | apply SetI.succ)) Wants.au
  | exact TL.sW 5 rfl rfl rfl rfl rfl rfl rfl rfl rfl (by repeat (first | exact SetI.zero | apply SetI.succ)) Wants.au
  | exact TM.nil
  | exact TR.nil
  | exact qG Wants.au rfl (fun _ => Gets.au)
  | exact qX Wants.au rfl Gets.au
  | exact TR.free Wants.au rfl (fun _ => Gets.au)
  | exact TR.gets Wants.au rfl (fun _ _ => Gets.au)) : A := h b
inductive Own_ (w0 : World) : List Ent → Prop
 | nil : Own_ w0 []
 | cons {e : Ent} {H : List Ent} (h : w0.heap.size ≤ e.g) (hr : Own_ w0 H) : Own_ w0 (e :: H)
theorem St.dp {w : World} (hs : St w0 H w) (h : Own_ w0 H := by repeat (first | exact Own_.nil | assumption | apply Own_.cons)) : St w0 [] w := by
 induction h with
 | nil => exact hs
 | cons h _ ih => exact ih (hs.drop h)
end
/-
 Contracts of package sha: words, the schedule and the mixing of a block.
-/
theorem agg169 : (isAgg 169).run Tryz.prog = fun w => .ok true w := isAgg_yes Tryz.underlying169 rfl
theorem agg5 : (isAgg 5).run Tryz.prog = fun w => .ok false w := isAgg_no Tryz.underlying5 rfl
theorem agg96 : (isAgg 96).run Tryz.prog = fun w => .ok false w := isAgg_no Tryz.underlying96 rfl
theorem enters130 : Enters Tryz.prog 130 := ⟨_, Tryz.func130, by kernel_rfl, by kernel_rfl⟩
theorem enters131 : Enters Tryz.prog 131 := ⟨_, Tryz.func131, by kernel_rfl, by kernel_rfl⟩
theorem enters137 : Enters Tryz.prog 137 := ⟨_, Tryz.func137, by kernel_rfl, by kernel_rfl⟩
theorem size169 : (Tryz.prog.info? 169).map (·.size) = some 64 := by kernel_rfl
theorem size5 : (Tryz.prog.info? 5).map (·.size) = some 1 := by kernel_rfl
theorem size96 : (Tryz.prog.info? 96).map (·.size) = some 1 := by kernel_rfl
theorem zero169 : (Tryz.prog.info? 169).bind (·.zero) = some (.agg #[.int .u32 0, .int .u32 0, .int .u32 0, .int .u32 0, .int .u32 0, .int .u32 0, .int .u32 0, .int .u32 0, .int .u32 0, .int .u32 0, .int .u32 0, .int .u32 0, .int .u32 0, .int .u32 0, .int .u32 0, .int .u32 0, .int .u32 0, .int .u32 0, .int .u32 0, .int .u32 0, .int .u32 0, .int .u32 0, .int .u32 0, .int .u32 0, .int .u32 0, .int .u32 0, .int .u32 0, .int .u32 0, .int .u32 0, .int .u32 0, .int .u32 0, .int .u32 0, .int .u32 0, .int .u32 0, .int .u32 0, .int .u32 0, .int .u32 0, .int .u32 0, .int .u32 0, .int .u32 0, .int .u32 0, .int .u32 0, .int .u32 0, .int .u32 0, .int .u32 0, .int .u32 0, .int .u32 0, .int .u32 0, .int .u32 0, .int .u32 0, .int .u32 0, .int .u32 0, .int .u32 0, .int .u32 0, .int .u32 0, .int .u32 0, .int .u32 0, .int .u32 0, .int .u32 0, .int .u32 0, .int .u32 0, .int .u32 0, .int .u32 0, .int .u32 0]) := by kernel_rfl
def rotr (x : Int) (n : Nat) : Int := orI .u32 (shlI .u32 x (32 - n)) (shrI .u32 x n)
theorem wrap_neg (m : Nat) (h1 : 1 ≤ m) (h2 : m ≤ 31) : IntKind.u64.wrap (-(m : Int)) = 18446744073709551616 - m := by
 simp [IntKind.wrap, IntKind.bits, IntKind.signed]; omega
theorem and_neg (m : Nat) (h1 : 1 ≤ m) (h2 : m ≤ 31) : andI .u64 (18446744073709551616 - (m : Int)) 31 = 32 - m := by
 have : ∀ k : Fin 32, 1 ≤ k.val → andI .u64 (18446744073709551616 - (k.val : Int)) 31 = 32 - (k.val : Int) := by decide +kernel
 exact this ⟨m, by omega⟩ h1
theorem rotl_eq (x : Int) (m : Nat) (h1 : 1 ≤ m) (h2 : m ≤ 31) : Ending.returned (.int .u32 (orI .u32 (shlI .u32 x (32 - (m : Int))) (shrI .u32 x (m : Int)))) = .returned (.int .u32 (rotr x m)) := rfl
theorem rotl_c (x : Int) (m : Nat) (w : World) (h1 : 1 ≤ m) (h2 : m ≤ 31) : Calls Tryz.prog 137 #[.int .u32 x, .int .i64 (-(m : Int))] w fun e w' => e = .returned (.int .u32 (rotr x m)) ∧ St w [] w' := by
 refine qM (args := [.int .u32 x, .int .i64 (-(m : Int))]) Tryz.func137 rfl Tryz.ntmps137 (by simp) ?_
 refine qC [0, 1] ?_
 iterate 8 refine gx ?_
 refine qB (qA rfl) rfl (zE rfl Tryz.underlying3 Tryz.underlying126 rfl (r := (18446744073709551616 - (m : Int))) (wrap_neg m (by omega) (by omega))) ?_
 refine qB (qA rfl) rfl (Gets.and rfl rfl rfl (r := (32 - (m : Int))) (and_neg m (by omega) (by omega))) ?_
 iterate 7 refine gx ?_
 refine qB (qA rfl) rfl (Gets.shl rfl rfl rfl (by omega) (r := (shlI .u32 x (32 - (m : Int)))) rfl) ?_
 iterate 2 refine gx ?_
 refine qB (qA rfl) rfl (qy rfl rfl rfl (r := (m : Int)) (wu64 (by omega) (by omega))) ?_
 refine qB (qA rfl) rfl (Gets.shr rfl rfl rfl (by omega) (r := (shrI .u32 x (m : Int))) rfl) ?_
 refine qB (qA rfl) rfl (Gets.or rfl rfl rfl (r := (orI .u32 (shlI .u32 x (32 - (m : Int))) (shrI .u32 x (m : Int)))) rfl) ?_
 iterate 4 refine gx ?_
 exact qJ rfl rfl (fun w hs => ⟨rotl_eq x m h1 h2, hs⟩)
attribute [irreducible] rotr
theorem right_c (x : Int) (m : Nat) (w : World) (h1 : 1 ≤ m) (h2 : m ≤ 31) : Calls Tryz.prog 131 #[.int .u32 x, .int .i64 (m : Int)] w fun e w' => e = .returned (.int .u32 (rotr x m)) ∧ St w [] w' := by
 refine qM (args := [.int .u32 x, .int .i64 (m : Int)]) Tryz.func131 rfl Tryz.ntmps131 (by simp) ?_
 refine qC [0, 1] ?_
 iterate 9 refine gx ?_
 refine qB (qA rfl) rfl (Gets.neg rfl rfl (r := (-(m : Int))) (w64 (by omega) (by omega))) ?_
 refine qL (qA rfl) rfl enters137 rfl rfl (v := .int .u32 (rotr x m)) (fun w hs => rotl_c x m w h1 h2) ?_
 iterate 4 refine gx ?_
 exact qJ rfl rfl (fun w hs => ⟨rfl, hs⟩)
def wordAt (B : List Int) (t : Nat) : Int := orI .u32 (orI .u32 (orI .u32 (shlI .u32 (IntKind.u32.wrap (B.getD (4 * t) 0)) 24) (shlI .u32 (IntKind.u32.wrap (B.getD (4 * t + 1) 0)) 16)) (shlI .u32 (IntKind.u32.wrap (B.getD (4 * t + 2) 0)) 8)) (IntKind.u32.wrap (B.getD (4 * t + 3) 0))
def w16 (B : List Int) : Nat → List Int
 | 0 => List.replicate 64 0
 | k + 1 => (w16 B k).set k (wordAt B k)
def sig0 (x : Int) : Int := xorI .u32 (xorI .u32 (rotr x 7) (rotr x 18)) (shrI .u32 x 3)
def sig1 (x : Int) : Int := xorI .u32 (xorI .u32 (rotr x 17) (rotr x 19)) (shrI .u32 x 10)
def sch (V : List Int) : Nat → List Int
 | 0 => V
 | j + 1 => (sch V j).set (j + 16) (addW .u32 (addW .u32 (addW .u32 (sig1 ((sch V j).getD (j + 14) 0)) ((sch V j).getD (j + 9) 0)) (sig0 ((sch V j).getD (j + 1) 0))) ((sch V j).getD j 0))
theorem w16_len (B : List Int) : ∀ k, (w16 B k).length = 64
 | 0 => by simp [w16]
 | k + 1 => by simp [w16, w16_len B k]
theorem sch_len {V : List Int} (h : V.length = 64) : ∀ j, (sch V j).length = 64
 | 0 => h
 | j + 1 => by simp [sch, sch_len h j]
def sched (B : List Int) : List Int := sch (w16 B 16) 48
theorem sched_len (B : List Int) : (sched B).length = 64 := sch_len (w16_len B 16) 48
theorem schedule_c (B : List Int) (b off cap : Nat) (w : World) (hb : b < w.heap.size) (hB : RowI w b off 64 .u8 B) (hcap : 64 ≤ cap) : Calls Tryz.prog 130 #[.slice (some ⟨b, off, none⟩) 64 cap] w fun e w' => e = .returned (.agg ((sched B).map (int .u32)).toArray) ∧ St w [] w' := by
 refine qM (args := [.slice (some ⟨b, off, none⟩) 64 cap]) Tryz.func130 rfl Tryz.ntmps130 (by simp) ?_
 refine qC [0] ?_
 iterate 2 refine gx ?_
 refine TL.alloc (qA rfl) rfl rfl zero169 (cs := (List.replicate 64 0).map (int .u32)) rfl (tot := 64) (by simp) (fun g1 hg1 => ?_)
 iterate 4 refine gx ?_
 refine TL.alloc (qA rfl) rfl rfl zero169 (cs := (List.replicate 64 0).map (int .u32)) rfl (tot := 64) (by simp) (fun g2 hg2 => ?_)
 iterate 9 refine gx ?_
 refine qp (ι := Nat) (fun k => [(0, .slice (some ⟨b, off, none⟩) 64 cap), (2, .pointer (some ⟨g1, 0, none⟩)), (3, .pointer (some ⟨g2, 0, none⟩)), (11, .int .i64 (k : Int))]) (fun k => [⟨g2, 169, (w16 B k).map (int .u32), 64⟩, ⟨g1, 169, (List.replicate 64 0).map (int .u32), 64⟩]) (fun k => 16 - k) (fun k => k ≤ 16) 0 (by omega) (qT (i := 0) rfl rfl (by first | omega | (dsimp only; omega) | rfl) (by first | omega | (dsimp only; omega) | rfl) (qK (i := 2) rfl (qK (i := 3) rfl (qF (i := 11) rfl (by first | omega | rfl) (qO))))) (fun w h => h) (fun k hC0 => ?_)
 iterate 6 refine gx ?_
 refine qP rfl (fun h0 => ?_) (fun h0 => ?_)
 ·iterate 14 refine gx ?_
  refine qB (qA rfl) rfl (Gets.mul rfl rfl rfl (r := (4 * (k : Int))) (w64 (by omega) (by omega))) ?_
  refine gx ?_
  refine qB (qA rfl) rfl (Gets.mul rfl rfl rfl (r := (4 * (k : Int))) (w64 (by omega) (by omega))) ?_
  refine qB (qA rfl) rfl (qQ rfl rfl rfl (r := (4 * (k : Int) + 4)) (w64 (by omega) (by omega))) ?_
  refine qB (qA rfl) rfl (zF rfl Tryz.underlying22 size5 rfl (bnd.at_ (l := (4 * k)) rfl (by omega)) (bnd.at_ (l := (4 * k + 4)) rfl (by omega)) (by omega) (by omega) (A' := some ⟨b, (off + 4 * k), none⟩) (cut_is (by omega) (by omega)) (ln := 4) (cp := (cap - 4 * k)) (by omega) (by omega)) ?_
  iterate 3 refine gx ?_
  refine qC [0, 2, 3, 4, 5, 11] ?_
  refine qs (by kernel_rfl) [0, 0, 0, 1, 1, 0, 0, 0, 1, 1, 0, 0, 0, 0, 1, 1, 0, 0, 0, 0, 1, 1, 0, 0, 2] rfl (by kernel_rfl) ?_
  iterate 2 refine gx ?_
  refine qG (qA rfl) rfl (fun _ => qe rfl Tryz.underlying22 size5 rfl rfl (i := 0) (by rfl) (by omega) (off' := (off + 4 * k)) (by omega)) ?_
  refine qX (qA rfl) rfl (qN rfl agg5 rfl (At.rowI hB (i := (4 * k)) (by omega) (by omega) hb (qD (by show g2 ≠ b; omega) (qD (by show g1 ≠ b; omega) qE)))) ?_
  refine qX (qA rfl) rfl (zE rfl Tryz.underlying5 Tryz.underlying96 rfl (r := (IntKind.u32.wrap (B.getD (4 * k) 0))) rfl) ?_
  refine qG (qA rfl) rfl (fun _ => Gets.shl rfl rfl rfl (by omega) (r := (shlI .u32 (IntKind.u32.wrap (B.getD (4 * k) 0)) 24)) rfl) ?_
  refine gx ?_
  refine qG (qA rfl) rfl (fun _ => qe rfl Tryz.underlying22 size5 rfl rfl (i := 1) (by rfl) (by omega) (off' := (off + 4 * k + 1)) (by omega)) ?_
  refine qX (qA rfl) rfl (qN rfl agg5 rfl (At.rowI hB (i := (4 * k + 1)) (by omega) (by omega) hb (qD (by show g2 ≠ b; omega) (qD (by show g1 ≠ b; omega) qE)))) ?_
  refine qX (qA rfl) rfl (zE rfl Tryz.underlying5 Tryz.underlying96 rfl (r := (IntKind.u32.wrap (B.getD (4 * k + 1) 0))) rfl) ?_
  refine qG (qA rfl) rfl (fun _ => Gets.shl rfl rfl rfl (by omega) (r := (shlI .u32 (IntKind.u32.wrap (B.getD (4 * k + 1) 0)) 16)) rfl) ?_
  refine qG (qA rfl) rfl (fun _ => Gets.or rfl rfl rfl (r := (orI .u32 (shlI .u32 (IntKind.u32.wrap (B.getD (4 * k) 0)) 24) (shlI .u32 (IntKind.u32.wrap (B.getD (4 * k + 1) 0)) 16))) rfl) ?_
  refine gx ?_
  refine qG (qA rfl) rfl (fun _ => qe rfl Tryz.underlying22 size5 rfl rfl (i := 2) (by rfl) (by omega) (off' := (off + 4 * k + 2)) (by omega)) ?_
  refine qX (qA rfl) rfl (qN rfl agg5 rfl (At.rowI hB (i := (4 * k + 2)) (by omega) (by omega) hb (qD (by show g2 ≠ b; omega) (qD (by show g1 ≠ b; omega) qE)))) ?_
  refine qX (qA rfl) rfl (zE rfl Tryz.underlying5 Tryz.underlying96 rfl (r := (IntKind.u32.wrap (B.getD (4 * k + 2) 0))) rfl) ?_
  refine qG (qA rfl) rfl (fun _ => Gets.shl rfl rfl rfl (by omega) (r := (shlI .u32 (IntKind.u32.wrap (B.getD (4 * k + 2) 0)) 8)) rfl) ?_
  refine qG (qA rfl) rfl (fun _ => Gets.or rfl rfl rfl (r := (orI .u32 (orI .u32 (shlI .u32 (IntKind.u32.wrap (B.getD (4 * k) 0)) 24) (shlI .u32 (IntKind.u32.wrap (B.getD (4 * k + 1) 0)) 16)) (shlI .u32 (IntKind.u32.wrap (B.getD (4 * k + 2) 0)) 8))) rfl) ?_
  refine gx ?_
  refine qG (qA rfl) rfl (fun _ => qe rfl Tryz.underlying22 size5 rfl rfl (i := 3) (by rfl) (by omega) (off' := (off + 4 * k + 3)) (by omega)) ?_
  refine qX (qA rfl) rfl (qN rfl agg5 rfl (At.rowI hB (i := (4 * k + 3)) (by omega) (by omega) hb (qD (by show g2 ≠ b; omega) (qD (by show g1 ≠ b; omega) qE)))) ?_
  refine qX (qA rfl) rfl (zE rfl Tryz.underlying5 Tryz.underlying96 rfl (r := (IntKind.u32.wrap (B.getD (4 * k + 3) 0))) rfl) ?_
  refine qG (qA rfl) rfl (fun _ => Gets.or rfl rfl rfl (r := (orI .u32 (orI .u32 (orI .u32 (shlI .u32 (IntKind.u32.wrap (B.getD (4 * k) 0)) 24) (shlI .u32 (IntKind.u32.wrap (B.getD (4 * k + 1) 0)) 16)) (shlI .u32 (IntKind.u32.wrap (B.getD (4 * k + 2) 0)) 8)) (IntKind.u32.wrap (B.getD (4 * k + 3) 0)))) rfl) ?_
  refine qG (qA rfl) rfl (fun _ => qh rfl Tryz.underlying169 size96 rfl rfl (i := k) (by omega) (by omega) (off' := k) (by omega)) ?_
  refine TM.store1 (qA rfl) rfl rfl size96 rfl rfl rfl (i := 0) rfl rfl (by simp [(w16_len B k)] <;> omega) (cs' := ((w16 B k).set k (orI .u32 (orI .u32 (orI .u32 (shlI .u32 (IntKind.u32.wrap (B.getD (4 * k) 0)) 24) (shlI .u32 (IntKind.u32.wrap (B.getD (4 * k + 1) 0)) 16)) (shlI .u32 (IntKind.u32.wrap (B.getD (4 * k + 2) 0)) 8)) (IntKind.u32.wrap (B.getD (4 * k + 3) 0)))).map (int .u32)) (ints_set) (H' := [⟨g2, 169, ((w16 B k).set k (orI .u32 (orI .u32 (orI .u32 (shlI .u32 (IntKind.u32.wrap (B.getD (4 * k) 0)) 24) (shlI .u32 (IntKind.u32.wrap (B.getD (4 * k + 1) 0)) 16)) (shlI .u32 (IntKind.u32.wrap (B.getD (4 * k + 2) 0)) 8)) (IntKind.u32.wrap (B.getD (4 * k + 3) 0)))).map (int .u32), 64⟩, ⟨g1, 169, (List.replicate 64 0).map (int .u32), 64⟩]) rfl ?_
  iterate 3 refine gx ?_
  refine qC [0, 2, 3, 11] ?_
  refine gx ?_
  refine qB (qA rfl) rfl (qQ rfl rfl rfl (r := ((k : Int) + 1)) (w64 (by omega) (by omega))) ?_
  iterate 2 refine gx ?_
  exact qd (k + 1) (by omega) (by omega) (qT (i := 0) rfl rfl (by first | omega | (dsimp only; omega) | rfl) (by first | omega | (dsimp only; omega) | rfl) (qK (i := 2) rfl (qK (i := 3) rfl (qF (i := 11) rfl (by first | omega | rfl) (qO))))) (fun w h => h)
 ·obtain rfl : k = 16 := by omega
  iterate 12 refine gx ?_
  refine qp (ι := Nat) (fun j => [(2, .pointer (some ⟨g1, 0, none⟩)), (3, .pointer (some ⟨g2, 0, none⟩)), (6, .int .i64 ((j : Int) + 16))]) (fun j => [⟨g2, 169, (sch (w16 B 16) j).map (int .u32), 64⟩, ⟨g1, 169, (List.replicate 64 0).map (int .u32), 64⟩]) (fun j => 48 - j) (fun j => j ≤ 48) 0 (by omega) (qK (i := 2) rfl (qK (i := 3) rfl (qF (i := 6) rfl (by first | omega | rfl) (qO)))) (fun w h => h) (fun j hC1 => ?_)
  iterate 7 refine gx ?_
  refine qP rfl (fun h1 => ?_) (fun h1 => ?_)
  ·iterate 5 refine gx ?_
   refine qs (by kernel_rfl) [0, 0, 0, 1, 0, 0, 0, 1, 0, 0] rfl (by kernel_rfl) ?_
   refine gx ?_
   refine qG (qA rfl) rfl (fun _ => qy rfl rfl rfl (r := ((j : Int) + 1)) (w64 (by omega) (by omega))) ?_
   refine qG (qA rfl) rfl (fun _ => qh rfl Tryz.underlying169 size96 rfl rfl (i := (j + 1)) (by omega) (by omega) (off' := (j + 1)) (by omega)) ?_
   refine qX (qA rfl) rfl (qN rfl agg96 rfl (qU (i := 0) (ent := ⟨g2, 169, (sch (w16 B 16) j).map (int .u32), 64⟩) (off := (j + 1)) rfl rfl (by have := qn (kd := .u32) (W := sch (w16 B 16) j) (i := (j + 1)) (by rw [(sch_len (w16_len B 16) j)]; omega); (first | exact this | (refine Eq.trans ?_ this; congr 1; omega))))) ?_
   refine gx ?_
   refine qG (qA rfl) rfl (fun _ => qy rfl rfl rfl (r := ((j : Int) + 14)) (w64 (by omega) (by omega))) ?_
   refine qG (qA rfl) rfl (fun _ => qh rfl Tryz.underlying169 size96 rfl rfl (i := (j + 14)) (by omega) (by omega) (off' := (j + 14)) (by omega)) ?_
   refine qX (qA rfl) rfl (qN rfl agg96 rfl (qU (i := 0) (ent := ⟨g2, 169, (sch (w16 B 16) j).map (int .u32), 64⟩) (off := (j + 14)) rfl rfl (by have := qn (kd := .u32) (W := sch (w16 B 16) j) (i := (j + 14)) (by rw [(sch_len (w16_len B 16) j)]; omega); (first | exact this | (refine Eq.trans ?_ this; congr 1; omega))))) ?_
   iterate 4 refine gx ?_
   refine qC [2, 3, 6, 7, 8] ?_
   iterate 3 refine gx ?_
   refine qL (qA rfl) rfl enters131 rfl rfl (v := .int .u32 (rotr ((sch (w16 B 16) j).getD (j + 1) 0) 7)) (fun w hs => right_c ((sch (w16 B 16) j).getD (j + 1) 0) 7 w (by omega) (by omega)) ?_
   refine gx ?_
   refine qL (qA rfl) rfl enters131 rfl rfl (v := .int .u32 (rotr ((sch (w16 B 16) j).getD (j + 1) 0) 18)) (fun w hs => right_c ((sch (w16 B 16) j).getD (j + 1) 0) 18 w (by omega) (by omega)) ?_
   refine qB (qA rfl) rfl (Gets.xor rfl rfl rfl (r := (xorI .u32 (rotr ((sch (w16 B 16) j).getD (j + 1) 0) 7) (rotr ((sch (w16 B 16) j).getD (j + 1) 0) 18))) rfl) ?_
   refine gx ?_
   refine qB (qA rfl) rfl (Gets.shr rfl rfl rfl (by omega) (r := (shrI .u32 ((sch (w16 B 16) j).getD (j + 1) 0) 3)) rfl) ?_
   refine qB (qA rfl) rfl (Gets.xor rfl rfl rfl (r := (xorI .u32 (xorI .u32 (rotr ((sch (w16 B 16) j).getD (j + 1) 0) 7) (rotr ((sch (w16 B 16) j).getD (j + 1) 0) 18)) (shrI .u32 ((sch (w16 B 16) j).getD (j + 1) 0) 3))) rfl) ?_
   iterate 3 refine gx ?_
   refine qC [2, 3, 6, 8, 9] ?_
   iterate 3 refine gx ?_
   refine qL (qA rfl) rfl enters131 rfl rfl (v := .int .u32 (rotr ((sch (w16 B 16) j).getD (j + 14) 0) 17)) (fun w hs => right_c ((sch (w16 B 16) j).getD (j + 14) 0) 17 w (by omega) (by omega)) ?_
   refine gx ?_
   refine qL (qA rfl) rfl enters131 rfl rfl (v := .int .u32 (rotr ((sch (w16 B 16) j).getD (j + 14) 0) 19)) (fun w hs => right_c ((sch (w16 B 16) j).getD (j + 14) 0) 19 w (by omega) (by omega)) ?_
   refine qB (qA rfl) rfl (Gets.xor rfl rfl rfl (r := (xorI .u32 (rotr ((sch (w16 B 16) j).getD (j + 14) 0) 17) (rotr ((sch (w16 B 16) j).getD (j + 14) 0) 19))) rfl) ?_
   refine gx ?_
   refine qB (qA rfl) rfl (Gets.shr rfl rfl rfl (by omega) (r := (shrI .u32 ((sch (w16 B 16) j).getD (j + 14) 0) 10)) rfl) ?_
   refine qB (qA rfl) rfl (Gets.xor rfl rfl rfl (r := (xorI .u32 (xorI .u32 (rotr ((sch (w16 B 16) j).getD (j + 14) 0) 17) (rotr ((sch (w16 B 16) j).getD (j + 14) 0) 19)) (shrI .u32 ((sch (w16 B 16) j).getD (j + 14) 0) 10))) rfl) ?_
   iterate 3 refine gx ?_
   refine qC [2, 3, 6, 9, 10] ?_
   refine qs (by kernel_rfl) [0, 0, 0, 0, 0, 1, 0, 0, 0, 0, 0, 0, 1, 0, 0, 2] rfl (by kernel_rfl) ?_
   iterate 3 refine gx ?_
   refine qG (qA rfl) rfl (fun _ => qy rfl rfl rfl (r := ((j : Int) + 9)) (w64 (by omega) (by omega))) ?_
   refine qG (qA rfl) rfl (fun _ => qh rfl Tryz.underlying169 size96 rfl rfl (i := (j + 9)) (by omega) (by omega) (off' := (j + 9)) (by omega)) ?_
   refine qX (qA rfl) rfl (qN rfl agg96 rfl (qU (i := 0) (ent := ⟨g2, 169, (sch (w16 B 16) j).map (int .u32), 64⟩) (off := (j + 9)) rfl rfl (by have := qn (kd := .u32) (W := sch (w16 B 16) j) (i := (j + 9)) (by rw [(sch_len (w16_len B 16) j)]; omega); (first | exact this | (refine Eq.trans ?_ this; congr 1; omega))))) ?_
   refine qG (qA rfl) rfl (fun _ => qw rfl rfl rfl) ?_
   refine gx ?_
   refine qG (qA rfl) rfl (fun _ => qw rfl rfl rfl) ?_
   refine gx ?_
   refine qG (qA rfl) rfl (fun _ => qy rfl rfl rfl (r := (j : Int)) (w64 (by omega) (by omega))) ?_
   refine qG (qA rfl) rfl (fun _ => qh rfl Tryz.underlying169 size96 rfl rfl (i := j) (by omega) (by omega) (off' := j) (by omega)) ?_
   refine qX (qA rfl) rfl (qN rfl agg96 rfl (qU (i := 0) (ent := ⟨g2, 169, (sch (w16 B 16) j).map (int .u32), 64⟩) (off := j) rfl rfl (by have := qn (kd := .u32) (W := sch (w16 B 16) j) (i := j) (by rw [(sch_len (w16_len B 16) j)]; omega); (first | exact this | (refine Eq.trans ?_ this; congr 1; omega))))) ?_
   refine qG (qA rfl) rfl (fun _ => qw rfl rfl rfl) ?_
   refine qG (qA rfl) rfl (fun _ => qh rfl Tryz.underlying169 size96 rfl rfl (i := (j + 16)) (by omega) (by omega) (off' := (j + 16)) (by omega)) ?_
   refine TM.store1 (qA rfl) rfl rfl size96 rfl rfl rfl (i := 0) rfl rfl (by simp [(sch_len (w16_len B 16) j)] <;> omega) (cs' := ((sch (w16 B 16) j).set (j + 16) (addW .u32 (addW .u32 (addW .u32 (xorI .u32 (xorI .u32 (rotr ((sch (w16 B 16) j).getD (j + 14) 0) 17) (rotr ((sch (w16 B 16) j).getD (j + 14) 0) 19)) (shrI .u32 ((sch (w16 B 16) j).getD (j + 14) 0) 10)) ((sch (w16 B 16) j).getD (j + 9) 0)) (xorI .u32 (xorI .u32 (rotr ((sch (w16 B 16) j).getD (j + 1) 0) 7) (rotr ((sch (w16 B 16) j).getD (j + 1) 0) 18)) (shrI .u32 ((sch (w16 B 16) j).getD (j + 1) 0) 3))) ((sch (w16 B 16) j).getD j 0))).map (int .u32)) (ints_set) (H' := [⟨g2, 169, ((sch (w16 B 16) j).set (j + 16) (addW .u32 (addW .u32 (addW .u32 (xorI .u32 (xorI .u32 (rotr ((sch (w16 B 16) j).getD (j + 14) 0) 17) (rotr ((sch (w16 B 16) j).getD (j + 14) 0) 19)) (shrI .u32 ((sch (w16 B 16) j).getD (j + 14) 0) 10)) ((sch (w16 B 16) j).getD (j + 9) 0)) (xorI .u32 (xorI .u32 (rotr ((sch (w16 B 16) j).getD (j + 1) 0) 7) (rotr ((sch (w16 B 16) j).getD (j + 1) 0) 18)) (shrI .u32 ((sch (w16 B 16) j).getD (j + 1) 0) 3))) ((sch (w16 B 16) j).getD j 0))).map (int .u32), 64⟩, ⟨g1, 169, (List.replicate 64 0).map (int .u32), 64⟩]) rfl ?_
   iterate 3 refine gx ?_
   refine qC [2, 3, 6] ?_
   iterate 2 refine gx ?_
   refine qB (qA rfl) rfl (qQ rfl rfl rfl (r := ((j : Int) + 17)) (w64 (by omega) (by omega))) ?_
   iterate 2 refine gx ?_
   exact qd (j + 1) (by omega) (by omega) (qK (i := 2) rfl (qK (i := 3) rfl (qF (i := 6) rfl (by first | omega | rfl) (qO)))) (fun w h => h)
  ·obtain rfl : j = 48 := by omega
   have hWl := sched_len B
   have hWs : sched B = sch (w16 B 16) 48 := by unfold sched; with_reducible rfl
   rw [hWs] at hWl
   generalize hW : sch (w16 B 16) 48 = W at hWl hWs ⊢
   iterate 7 refine gx ?_
   refine qB (qA rfl) rfl (qj rfl agg169 size169 rfl (vs := W.map (int .u32)) (by simp [hWl]) (qW (i := 0) (ent := ⟨g2, 169, W.map (int .u32), 64⟩) rfl rfl rfl)) ?_
   refine TL.storeW (qA rfl) rfl rfl size169 rfl (vs := W.map (int .u32)) rfl (by simp [hWl]) zB (i := 1) (ent := ⟨g1, 169, (List.replicate 64 0).map (int .u32), 64⟩) rfl rfl (by simp []) (H' := [⟨g2, 169, W.map (int .u32), 64⟩, ⟨g1, 169, W.map (int .u32), 64⟩]) rfl ?_
   iterate 3 refine gx ?_
   exact qo rfl agg169 size169 rfl (vs := W.map (int .u32)) (by simp [hWl]) (qW (i := 1) (ent := ⟨g1, 169, W.map (int .u32), 64⟩) rfl rfl rfl) (fun w hs => ⟨by rw [hWs], hs.dp⟩)
attribute [irreducible] sched wordAt sig0 sig1
def KT : List Int := [1116352408, 1899447441, 3049323471, 3921009573, 961987163, 1508970993, 2453635748, 2870763221, 3624381080, 310598401, 607225278, 1426881987, 1925078388, 2162078206, 2614888103, 3248222580, 3835390401, 4022224774, 264347078, 604807628, 770255983, 1249150122, 1555081692, 1996064986, 2554220882, 2821834349, 2952996808, 3210313671, 3336571891, 3584528711, 113926993, 338241895, 666307205, 773529912, 1294757372, 1396182291, 1695183700, 1986661051, 2177026350, 2456956037, 2730485921, 2820302411, 3259730800, 3345764771, 3516065817, 3600352804, 4094571909, 275423344, 430227734, 506948616, 659060556, 883997877, 958139571, 1322822218, 1537002063, 1747873779, 1955562222, 2024104815, 2227730452, 2361852424, 2428436474, 2756734187, 3204031479, 3329325298]
def IV : List Int := [1779033703, 3144134277, 1013904242, 2773480762, 1359893119, 2600822924, 528734635, 1541459225]
def big1 (x : Int) : Int := xorI .u32 (xorI .u32 (rotr x 6) (rotr x 11)) (rotr x 25)
def big0 (x : Int) : Int := xorI .u32 (xorI .u32 (rotr x 2) (rotr x 13)) (rotr x 22)
def chI (e f g : Int) : Int := xorI .u32 (andI .u32 e f) (andI .u32 (cplI .u32 e) g)
def majI (a b c : Int) : Int := xorI .u32 (xorI .u32 (andI .u32 a b) (andI .u32 a c)) (andI .u32 b c)
def t1I (V : List Int) (k w : Int) : Int := addW .u32 (addW .u32 (addW .u32 (addW .u32 (V.getD 7 0) (big1 (V.getD 4 0))) (chI (V.getD 4 0) (V.getD 5 0) (V.getD 6 0))) k) w
def t2I (V : List Int) : Int := addW .u32 (big0 (V.getD 0 0)) (majI (V.getD 0 0) (V.getD 1 0) (V.getD 2 0))
def stepV (V : List Int) (k w : Int) : List Int := [addW .u32 (t1I V k w) (t2I V), V.getD 0 0, V.getD 1 0, V.getD 2 0, addW .u32 (V.getD 3 0) (t1I V k w), V.getD 4 0, V.getD 5 0, V.getD 6 0]
def rounds (V W : List Int) : Nat → List Int
 | 0 => V
 | k + 1 => stepV (rounds V W k) (KT.getD k 0) (W.getD k 0)
def addAll (st V : List Int) : Nat → List Int
 | 0 => st
 | i + 1 => (addAll st V i).set i (addW .u32 ((addAll st V i).getD i 0) (V.getD i 0))
theorem addAll_len {st V : List Int} (h : st.length = 8) : ∀ j, (addAll st V j).length = 8
 | 0 => h
 | j + 1 => by simp [addAll, addAll_len h j]
def mixS (st B : List Int) : List Int := addAll st (rounds st (sched B) 64) 8
theorem mixS_len {st B : List Int} (h : st.length = 8) : (mixS st B).length = 8 := addAll_len h 8
attribute [irreducible] mixS
theorem RowI.keep {w w' : World} {b off n : Nat} {kd : IntKind} {B : List Int} (h : RowI w b off n kd B) (hs : St w [] w') (hb : b < w.heap.size) : RowI w' b off n kd B := fun j hj =>
 (hs.old_cell (ad := ⟨b, off + j, none⟩) hb qE).trans (h j hj)
theorem mix_end {w0 w : World} {e1 e2 : Ent} {g : Nat} (hs : St w0 [e2, e1] w) (h1 : g < w0.heap.size) (hg : w0.heap.size ≤ e1.g) : St w0 [e2] w := hs.erase (i := 1) rfl hg
theorem mix_c (st B : List Int) (tl : List Value) (g t tot b off cap : Nat) (w : World) (hst : st.length = 8) (hl : Ent.lies ⟨g, t, st.map (int .u32) ++ (tl), tot⟩ w) (hb : b < w.heap.size) (hB : RowI w b off 64 .u8 B) (hcap : 64 ≤ cap) (h1 : 2 < w.heap.size) (hg1 : g ≠ 2) (hK : RowI w 2 0 64 .u32 KT) : Calls Tryz.prog 113 #[.pointer (some ⟨g, 0, none⟩), .slice (some ⟨b, off, none⟩) 64 cap] w fun e w' => e = .returned (.tuple #[]) ∧ St w [⟨g, t, (mixS st B).map (int .u32) ++ (tl), tot⟩] w' := by
 have hg : g < w.heap.size := hl.lt
 refine qM (args := [.pointer (some ⟨g, 0, none⟩), .slice (some ⟨b, off, none⟩) 64 cap]) Tryz.func113 rfl Tryz.ntmps113 (by simp) ?_
 refine qC [0, 1] ?_
 iterate 3 refine gx ?_
 refine qL (qA rfl) rfl enters130 rfl rfl (v := .agg ((sched B).map (int .u32)).toArray) (fun w hs => schedule_c B b off cap _ (Nat.lt_of_lt_of_le hb hs.size) (hB.keep hs hb) hcap) ?_
 refine TL.alloc (qA rfl) rfl rfl zero169 (cs := (List.replicate 64 0).map (int .u32)) rfl (tot := 64) (by simp) (fun g1 hg1 => ?_)
 refine TL.storeW (qA rfl) rfl rfl size169 rfl (vs := (sched B).map (int .u32)) rfl (by simp [(sched_len B)]) zB (i := 0) (ent := ⟨g1, 169, (List.replicate 64 0).map (int .u32), 64⟩) rfl rfl (by simp []) (H' := [⟨g1, 169, (sched B).map (int .u32), 64⟩]) rfl ?_
 iterate 3 refine gx ?_
 refine TC.heap (H' := [⟨g, t, st.map (int .u32) ++ (tl), tot⟩, ⟨g1, 169, (sched B).map (int .u32), 64⟩]) (fun w hs => hs.take hl (qD (by show g1 ≠ g; omega) qE)) ?_
 refine qs (by kernel_rfl) [0, 0, 0, 1, 0, 0, 0, 1, 0, 0, 0, 1, 0, 0, 0, 1, 0, 0, 0, 1, 0, 0, 0, 1, 0, 0, 0, 1, 0, 0, 0, 1, 0, 0, 0, 0, 0, 0, 0, 0] rfl (by kernel_rfl) ?_
 refine gx ?_
 refine qG (qA rfl) rfl (fun _ => qf rfl rfl) ?_
 refine qG (qA rfl) rfl (fun _ => qh rfl Tryz.underlying138 size96 rfl rfl (i := 0) (by rfl) (by omega) (off' := 0) (by omega)) ?_
 refine qX (qA rfl) rfl (qN rfl agg96 rfl (qU (i := 0) (ent := ⟨g, t, st.map (int .u32) ++ (tl), tot⟩) (off := 0) rfl rfl (by exact app_left (i := 0) (B := tl) (qn (kd := .u32) (W := st) (i := 0) (by rw [hst]; omega))))) ?_
 refine gx ?_
 refine qG (qA rfl) rfl (fun _ => qf rfl rfl) ?_
 refine qG (qA rfl) rfl (fun _ => qh rfl Tryz.underlying138 size96 rfl rfl (i := 1) (by rfl) (by omega) (off' := 1) (by omega)) ?_
 refine qX (qA rfl) rfl (qN rfl agg96 rfl (qU (i := 0) (ent := ⟨g, t, st.map (int .u32) ++ (tl), tot⟩) (off := 1) rfl rfl (by exact app_left (i := 1) (B := tl) (qn (kd := .u32) (W := st) (i := 1) (by rw [hst]; omega))))) ?_
 refine gx ?_
 refine qG (qA rfl) rfl (fun _ => qf rfl rfl) ?_
 refine qG (qA rfl) rfl (fun _ => qh rfl Tryz.underlying138 size96 rfl rfl (i := 2) (by rfl) (by omega) (off' := 2) (by omega)) ?_
 refine qX (qA rfl) rfl (qN rfl agg96 rfl (qU (i := 0) (ent := ⟨g, t, st.map (int .u32) ++ (tl), tot⟩) (off := 2) rfl rfl (by exact app_left (i := 2) (B := tl) (qn (kd := .u32) (W := st) (i := 2) (by rw [hst]; omega))))) ?_
 refine gx ?_
 refine qG (qA rfl) rfl (fun _ => qf rfl rfl) ?_
 refine qG (qA rfl) rfl (fun _ => qh rfl Tryz.underlying138 size96 rfl rfl (i := 3) (by rfl) (by omega) (off' := 3) (by omega)) ?_
 refine qX (qA rfl) rfl (qN rfl agg96 rfl (qU (i := 0) (ent := ⟨g, t, st.map (int .u32) ++ (tl), tot⟩) (off := 3) rfl rfl (by exact app_left (i := 3) (B := tl) (qn (kd := .u32) (W := st) (i := 3) (by rw [hst]; omega))))) ?_
 refine gx ?_
 refine qG (qA rfl) rfl (fun _ => qf rfl rfl) ?_
 refine qG (qA rfl) rfl (fun _ => qh rfl Tryz.underlying138 size96 rfl rfl (i := 4) (by rfl) (by omega) (off' := 4) (by omega)) ?_
 refine qX (qA rfl) rfl (qN rfl agg96 rfl (qU (i := 0) (ent := ⟨g, t, st.map (int .u32) ++ (tl), tot⟩) (off := 4) rfl rfl (by exact app_left (i := 4) (B := tl) (qn (kd := .u32) (W := st) (i := 4) (by rw [hst]; omega))))) ?_
 refine gx ?_
 refine qG (qA rfl) rfl (fun _ => qf rfl rfl) ?_
 refine qG (qA rfl) rfl (fun _ => qh rfl Tryz.underlying138 size96 rfl rfl (i := 5) (by rfl) (by omega) (off' := 5) (by omega)) ?_
 refine qX (qA rfl) rfl (qN rfl agg96 rfl (qU (i := 0) (ent := ⟨g, t, st.map (int .u32) ++ (tl), tot⟩) (off := 5) rfl rfl (by exact app_left (i := 5) (B := tl) (qn (kd := .u32) (W := st) (i := 5) (by rw [hst]; omega))))) ?_
 refine gx ?_
 refine qG (qA rfl) rfl (fun _ => qf rfl rfl) ?_
 refine qG (qA rfl) rfl (fun _ => qh rfl Tryz.underlying138 size96 rfl rfl (i := 6) (by rfl) (by omega) (off' := 6) (by omega)) ?_
 refine qX (qA rfl) rfl (qN rfl agg96 rfl (qU (i := 0) (ent := ⟨g, t, st.map (int .u32) ++ (tl), tot⟩) (off := 6) rfl rfl (by exact app_left (i := 6) (B := tl) (qn (kd := .u32) (W := st) (i := 6) (by rw [hst]; omega))))) ?_
 refine gx ?_
 refine qG (qA rfl) rfl (fun _ => qf rfl rfl) ?_
 refine qG (qA rfl) rfl (fun _ => qh rfl Tryz.underlying138 size96 rfl rfl (i := 7) (by rfl) (by omega) (off' := 7) (by omega)) ?_
 refine qX (qA rfl) rfl (qN rfl agg96 rfl (qU (i := 0) (ent := ⟨g, t, st.map (int .u32) ++ (tl), tot⟩) (off := 7) rfl rfl (by exact app_left (i := 7) (B := tl) (qn (kd := .u32) (W := st) (i := 7) (by rw [hst]; omega))))) ?_
 iterate 10 refine gx ?_
 refine qC [0, 4, 5, 6, 7, 8, 9, 10, 11, 12] ?_
 iterate 3 refine gx ?_
 refine qB (qA rfl) rfl (qj rfl agg169 size169 rfl (vs := (sched B).map (int .u32)) (by simp [(sched_len B)]) (qW (i := 1) (ent := ⟨g1, 169, (sched B).map (int .u32), 64⟩) rfl rfl rfl)) ?_
 iterate 3 refine gx ?_
 refine qC [0, 5, 6, 7, 8, 9, 10, 11, 12, 51, 52] ?_
 refine gx ?_
 refine qp (ι := Nat) (fun k => [(0, .pointer (some ⟨g, 0, none⟩)), (51, .agg ((sched B).map (int .u32)).toArray), (52, .int .i64 (k : Int)), (5, .int .u32 ((rounds st (sched B) k).getD 0 0)), (6, .int .u32 ((rounds st (sched B) k).getD 1 0)), (7, .int .u32 ((rounds st (sched B) k).getD 2 0)), (8, .int .u32 ((rounds st (sched B) k).getD 3 0)), (9, .int .u32 ((rounds st (sched B) k).getD 4 0)), (10, .int .u32 ((rounds st (sched B) k).getD 5 0)), (11, .int .u32 ((rounds st (sched B) k).getD 6 0)), (12, .int .u32 ((rounds st (sched B) k).getD 7 0))]) (fun k => [⟨g, t, st.map (int .u32) ++ (tl), tot⟩, ⟨g1, 169, (sched B).map (int .u32), 64⟩]) (fun k => 64 - k) (fun k => k ≤ 64) 0 (by omega) (qK (i := 0) rfl (qK (i := 51) rfl (qF (i := 52) rfl (by first | omega | rfl) (qF (i := 5) rfl (by first | rfl | omega) (qF (i := 6) rfl (by first | rfl | omega) (qF (i := 7) rfl (by first | rfl | omega) (qF (i := 8) rfl (by first | rfl | omega) (qF (i := 9) rfl (by first | rfl | omega) (qF (i := 10) rfl (by first | rfl | omega) (qF (i := 11) rfl (by first | rfl | omega) (qF (i := 12) rfl (by first | rfl | omega) (qO)))))))))))) (fun w h => h) (fun k hC0 => ?_)
 iterate 5 refine gx ?_
 refine qC [0, 5, 6, 7, 8, 9, 10, 11, 12, 51, 52, 53] ?_
 refine gx ?_
 refine qP rfl (fun h0 => ?_) (fun h0 => ?_)
 ·iterate 2 refine gx ?_
  refine qC [0, 5, 6, 7, 8, 9, 10, 11, 12, 51, 52] ?_
  iterate 5 refine gx ?_
  refine qB (qA rfl) rfl (Gets.index1 rfl Tryz.underlying169 agg96 size96 rfl rfl (i := k) (by omega) (by omega) (arr_get (qn (kd := .u32) (W := sched B) (i := k) (by rw [(sched_len B)]; omega)))) ?_
  iterate 4 refine gx ?_
  refine qC [0, 5, 6, 7, 8, 9, 10, 11, 12, 13, 14, 51, 52] ?_
  refine gx ?_
  refine qs (by kernel_rfl) [0, 0, 1, 0, 1, 0, 0, 1, 0, 0, 0, 0, 0, 0, 0, 0, 0, 0, 0, 0, 0, 1, 0, 0, 0, 0] rfl (by kernel_rfl) ?_
  iterate 2 refine gx ?_
  refine qz (qA rfl) rfl enters131 rfl rfl (v := .int .u32 (rotr ((rounds st (sched B) k).getD 4 0) 6)) (fun w hs => right_c ((rounds st (sched B) k).getD 4 0) 6 w (by omega) (by omega)) ?_
  refine gx ?_
  refine qz (qA rfl) rfl enters131 rfl rfl (v := .int .u32 (rotr ((rounds st (sched B) k).getD 4 0) 11)) (fun w hs => right_c ((rounds st (sched B) k).getD 4 0) 11 w (by omega) (by omega)) ?_
  refine qG (qA rfl) rfl (fun _ => Gets.xor rfl rfl rfl (r := (xorI .u32 (rotr ((rounds st (sched B) k).getD 4 0) 6) (rotr ((rounds st (sched B) k).getD 4 0) 11))) rfl) ?_
  refine gx ?_
  refine qz (qA rfl) rfl enters131 rfl rfl (v := .int .u32 (rotr ((rounds st (sched B) k).getD 4 0) 25)) (fun w hs => right_c ((rounds st (sched B) k).getD 4 0) 25 w (by omega) (by omega)) ?_
  refine qG (qA rfl) rfl (fun _ => Gets.xor rfl rfl rfl (r := (xorI .u32 (xorI .u32 (rotr ((rounds st (sched B) k).getD 4 0) 6) (rotr ((rounds st (sched B) k).getD 4 0) 11)) (rotr ((rounds st (sched B) k).getD 4 0) 25))) rfl) ?_
  refine qG (qA rfl) rfl (fun _ => qw rfl rfl rfl) ?_
  iterate 2 refine gx ?_
  refine qG (qA rfl) rfl (fun _ => Gets.and rfl rfl rfl (r := (andI .u32 ((rounds st (sched B) k).getD 4 0) ((rounds st (sched B) k).getD 5 0))) rfl) ?_
  refine gx ?_
  refine qG (qA rfl) rfl (fun _ => Gets.cplU rfl rfl) ?_
  refine gx ?_
  refine qG (qA rfl) rfl (fun _ => Gets.and rfl rfl rfl (r := (andI .u32 (cplI .u32 ((rounds st (sched B) k).getD 4 0)) ((rounds st (sched B) k).getD 6 0))) rfl) ?_
  refine qG (qA rfl) rfl (fun _ => Gets.xor rfl rfl rfl (r := (xorI .u32 (andI .u32 ((rounds st (sched B) k).getD 4 0) ((rounds st (sched B) k).getD 5 0)) (andI .u32 (cplI .u32 ((rounds st (sched B) k).getD 4 0)) ((rounds st (sched B) k).getD 6 0)))) rfl) ?_
  refine qG (qA rfl) rfl (fun _ => qw rfl rfl rfl) ?_
  refine gx ?_
  refine qG (qA rfl) rfl (fun _ => qh rfl Tryz.underlying169 size96 rfl rfl (i := k) (by omega) (by omega) (off' := k) (by omega)) ?_
  refine qX (qA rfl) rfl (qN rfl agg96 rfl (At.rowI hK (i := k) (by omega) (by omega) h1 (qD (by show g ≠ 2; omega) (qD (by show g1 ≠ 2; omega) qE)))) ?_
  refine qG (qA rfl) rfl (fun _ => qw rfl rfl rfl) ?_
  refine gx ?_
  refine qG (qA rfl) rfl (fun _ => qw rfl rfl rfl) ?_
  iterate 3 refine gx ?_
  refine qC [0, 5, 6, 7, 8, 9, 10, 11, 12, 15, 51, 52] ?_
  iterate 3 refine gx ?_
  refine qL (qA rfl) rfl enters131 rfl rfl (v := .int .u32 (rotr ((rounds st (sched B) k).getD 0 0) 2)) (fun w hs => right_c ((rounds st (sched B) k).getD 0 0) 2 w (by omega) (by omega)) ?_
  refine gx ?_
  refine qL (qA rfl) rfl enters131 rfl rfl (v := .int .u32 (rotr ((rounds st (sched B) k).getD 0 0) 13)) (fun w hs => right_c ((rounds st (sched B) k).getD 0 0) 13 w (by omega) (by omega)) ?_
  refine qB (qA rfl) rfl (Gets.xor rfl rfl rfl (r := (xorI .u32 (rotr ((rounds st (sched B) k).getD 0 0) 2) (rotr ((rounds st (sched B) k).getD 0 0) 13))) rfl) ?_
  refine gx ?_
  refine qL (qA rfl) rfl enters131 rfl rfl (v := .int .u32 (rotr ((rounds st (sched B) k).getD 0 0) 22)) (fun w hs => right_c ((rounds st (sched B) k).getD 0 0) 22 w (by omega) (by omega)) ?_
  refine qB (qA rfl) rfl (Gets.xor rfl rfl rfl (r := (xorI .u32 (xorI .u32 (rotr ((rounds st (sched B) k).getD 0 0) 2) (rotr ((rounds st (sched B) k).getD 0 0) 13)) (rotr ((rounds st (sched B) k).getD 0 0) 22))) rfl) ?_
  iterate 2 refine gx ?_
  refine qB (qA rfl) rfl (Gets.and rfl rfl rfl (r := (andI .u32 ((rounds st (sched B) k).getD 0 0) ((rounds st (sched B) k).getD 1 0))) rfl) ?_
  iterate 2 refine gx ?_
  refine qB (qA rfl) rfl (Gets.and rfl rfl rfl (r := (andI .u32 ((rounds st (sched B) k).getD 0 0) ((rounds st (sched B) k).getD 2 0))) rfl) ?_
  refine qB (qA rfl) rfl (Gets.xor rfl rfl rfl (r := (xorI .u32 (andI .u32 ((rounds st (sched B) k).getD 0 0) ((rounds st (sched B) k).getD 1 0)) (andI .u32 ((rounds st (sched B) k).getD 0 0) ((rounds st (sched B) k).getD 2 0)))) rfl) ?_
  iterate 2 refine gx ?_
  refine qB (qA rfl) rfl (Gets.and rfl rfl rfl (r := (andI .u32 ((rounds st (sched B) k).getD 1 0) ((rounds st (sched B) k).getD 2 0))) rfl) ?_
  refine qB (qA rfl) rfl (Gets.xor rfl rfl rfl (r := (xorI .u32 (xorI .u32 (andI .u32 ((rounds st (sched B) k).getD 0 0) ((rounds st (sched B) k).getD 1 0)) (andI .u32 ((rounds st (sched B) k).getD 0 0) ((rounds st (sched B) k).getD 2 0))) (andI .u32 ((rounds st (sched B) k).getD 1 0) ((rounds st (sched B) k).getD 2 0)))) rfl) ?_
  refine qB (qA rfl) rfl (qw rfl rfl rfl) ?_
  iterate 3 refine gx ?_
  refine qC [0, 5, 6, 7, 8, 9, 10, 11, 12, 15, 16, 51, 52] ?_
  iterate 6 refine gx ?_
  refine qB (qA rfl) rfl (qw rfl rfl rfl) ?_
  iterate 5 refine gx ?_
  refine qB (qA rfl) rfl (qw rfl rfl rfl) ?_
  iterate 11 refine gx ?_
  refine qC [0, 5, 6, 7, 8, 9, 10, 11, 12, 51, 52] ?_
  refine gx ?_
  refine qB (qA rfl) rfl (qQ rfl rfl rfl (r := ((k : Int) + 1)) (w64 (by omega) (by omega))) ?_
  iterate 2 refine gx ?_
  exact qd (k + 1) (by omega) (by omega) (qK (i := 0) rfl (qK (i := 51) rfl (qF (i := 52) rfl (by first | omega | rfl) (qF (i := 5) rfl (by first | rfl | omega) (qF (i := 6) rfl (by first | rfl | omega) (qF (i := 7) rfl (by first | rfl | omega) (qF (i := 8) rfl (by first | rfl | omega) (qF (i := 9) rfl (by first | rfl | omega) (qF (i := 10) rfl (by first | rfl | omega) (qF (i := 11) rfl (by first | rfl | omega) (qF (i := 12) rfl (by first | rfl | omega) (qO)))))))))))) (fun w h => h)
 ·obtain rfl : k = 64 := by omega
  generalize hV : rounds st (sched B) 64 = V
  iterate 5 refine gx ?_
  refine qC [0, 5, 6, 7, 8, 9, 10, 11, 12] ?_
  refine gx ?_
  refine qs (by kernel_rfl) [0, 0, 0, 1, 0, 0, 0, 0, 2] rfl (by kernel_rfl) ?_
  refine gx ?_
  refine qG (qA rfl) rfl (fun _ => qf rfl rfl) ?_
  refine qG (qA rfl) rfl (fun _ => qh rfl Tryz.underlying138 size96 rfl rfl (i := 0) (by rfl) (by omega) (off' := 0) (by omega)) ?_
  refine qX (qA rfl) rfl (qN rfl agg96 rfl (qU (i := 0) (ent := ⟨g, t, st.map (int .u32) ++ (tl), tot⟩) (off := 0) rfl rfl (by exact app_left (i := 0) (B := tl) (qn (kd := .u32) (W := st) (i := 0) (by rw [hst]; omega))))) ?_
  refine gx ?_
  refine qG (qA rfl) rfl (fun _ => qw rfl rfl rfl) ?_
  refine qG (qA rfl) rfl (fun _ => qf rfl rfl) ?_
  refine qG (qA rfl) rfl (fun _ => qh rfl Tryz.underlying138 size96 rfl rfl (i := 0) (by rfl) (by omega) (off' := 0) (by omega)) ?_
  refine TM.store1 (qA rfl) rfl rfl size96 rfl rfl rfl (i := 0) rfl rfl (by simp [hst] <;> omega) (cs' := (addAll st V 1).map (int .u32) ++ (tl)) (set_left (by simp [hst]) (ints_set)) (H' := [⟨g, t, (addAll st V 1).map (int .u32) ++ (tl), tot⟩, ⟨g1, 169, (sched B).map (int .u32), 64⟩]) rfl ?_
  iterate 2 refine gx ?_
  refine qC [0, 6, 7, 8, 9, 10, 11, 12] ?_
  refine gx ?_
  refine qs (by kernel_rfl) [0, 0, 0, 1, 0, 0, 0, 0, 2] rfl (by kernel_rfl) ?_
  refine gx ?_
  refine qG (qA rfl) rfl (fun _ => qf rfl rfl) ?_
  refine qG (qA rfl) rfl (fun _ => qh rfl Tryz.underlying138 size96 rfl rfl (i := 1) (by rfl) (by omega) (off' := 1) (by omega)) ?_
  refine qX (qA rfl) rfl (qN rfl agg96 rfl (qU (i := 0) (ent := ⟨g, t, (addAll st V 1).map (int .u32) ++ (tl), tot⟩) (off := 1) rfl rfl (by exact app_left (i := 1) (B := tl) (qn (kd := .u32) (W := (addAll st V 1)) (i := 1) (by rw [(addAll_len hst 1)]; omega))))) ?_
  refine gx ?_
  refine qG (qA rfl) rfl (fun _ => qw rfl rfl rfl) ?_
  refine qG (qA rfl) rfl (fun _ => qf rfl rfl) ?_
  refine qG (qA rfl) rfl (fun _ => qh rfl Tryz.underlying138 size96 rfl rfl (i := 1) (by rfl) (by omega) (off' := 1) (by omega)) ?_
  refine TM.store1 (qA rfl) rfl rfl size96 rfl rfl rfl (i := 0) rfl rfl (by simp [(addAll_len hst 1)] <;> omega) (cs' := (addAll st V 2).map (int .u32) ++ (tl)) (set_left (by simp [(addAll_len hst 1)]) (ints_set)) (H' := [⟨g, t, (addAll st V 2).map (int .u32) ++ (tl), tot⟩, ⟨g1, 169, (sched B).map (int .u32), 64⟩]) rfl ?_
  iterate 2 refine gx ?_
  refine qC [0, 7, 8, 9, 10, 11, 12] ?_
  refine gx ?_
  refine qs (by kernel_rfl) [0, 0, 0, 1, 0, 0, 0, 0, 2] rfl (by kernel_rfl) ?_
  refine gx ?_
  refine qG (qA rfl) rfl (fun _ => qf rfl rfl) ?_
  refine qG (qA rfl) rfl (fun _ => qh rfl Tryz.underlying138 size96 rfl rfl (i := 2) (by rfl) (by omega) (off' := 2) (by omega)) ?_
  refine qX (qA rfl) rfl (qN rfl agg96 rfl (qU (i := 0) (ent := ⟨g, t, (addAll st V 2).map (int .u32) ++ (tl), tot⟩) (off := 2) rfl rfl (by exact app_left (i := 2) (B := tl) (qn (kd := .u32) (W := (addAll st V 2)) (i := 2) (by rw [(addAll_len hst 2)]; omega))))) ?_
  refine gx ?_
  refine qG (qA rfl) rfl (fun _ => qw rfl rfl rfl) ?_
  refine qG (qA rfl) rfl (fun _ => qf rfl rfl) ?_
  refine qG (qA rfl) rfl (fun _ => qh rfl Tryz.underlying138 size96 rfl rfl (i := 2) (by rfl) (by omega) (off' := 2) (by omega)) ?_
  refine TM.store1 (qA rfl) rfl rfl size96 rfl rfl rfl (i := 0) rfl rfl (by simp [(addAll_len hst 2)] <;> omega) (cs' := (addAll st V 3).map (int .u32) ++ (tl)) (set_left (by simp [(addAll_len hst 2)]) (ints_set)) (H' := [⟨g, t, (addAll st V 3).map (int .u32) ++ (tl), tot⟩, ⟨g1, 169, (sched B).map (int .u32), 64⟩]) rfl ?_
  iterate 2 refine gx ?_
  refine qC [0, 8, 9, 10, 11, 12] ?_
  refine gx ?_
  refine qs (by kernel_rfl) [0, 0, 0, 1, 0, 0, 0, 0, 2] rfl (by kernel_rfl) ?_
  refine gx ?_
  refine qG (qA rfl) rfl (fun _ => qf rfl rfl) ?_
  refine qG (qA rfl) rfl (fun _ => qh rfl Tryz.underlying138 size96 rfl rfl (i := 3) (by rfl) (by omega) (off' := 3) (by omega)) ?_
  refine qX (qA rfl) rfl (qN rfl agg96 rfl (qU (i := 0) (ent := ⟨g, t, (addAll st V 3).map (int .u32) ++ (tl), tot⟩) (off := 3) rfl rfl (by exact app_left (i := 3) (B := tl) (qn (kd := .u32) (W := (addAll st V 3)) (i := 3) (by rw [(addAll_len hst 3)]; omega))))) ?_
  refine gx ?_
  refine qG (qA rfl) rfl (fun _ => qw rfl rfl rfl) ?_
  refine qG (qA rfl) rfl (fun _ => qf rfl rfl) ?_
  refine qG (qA rfl) rfl (fun _ => qh rfl Tryz.underlying138 size96 rfl rfl (i := 3) (by rfl) (by omega) (off' := 3) (by omega)) ?_
  refine TM.store1 (qA rfl) rfl rfl size96 rfl rfl rfl (i := 0) rfl rfl (by simp [(addAll_len hst 3)] <;> omega) (cs' := (addAll st V 4).map (int .u32) ++ (tl)) (set_left (by simp [(addAll_len hst 3)]) (ints_set)) (H' := [⟨g, t, (addAll st V 4).map (int .u32) ++ (tl), tot⟩, ⟨g1, 169, (sched B).map (int .u32), 64⟩]) rfl ?_
  iterate 2 refine gx ?_
  refine qC [0, 9, 10, 11, 12] ?_
  refine gx ?_
  refine qs (by kernel_rfl) [0, 0, 0, 1, 0, 0, 0, 0, 2] rfl (by kernel_rfl) ?_
  refine gx ?_
  refine qG (qA rfl) rfl (fun _ => qf rfl rfl) ?_
  refine qG (qA rfl) rfl (fun _ => qh rfl Tryz.underlying138 size96 rfl rfl (i := 4) (by rfl) (by omega) (off' := 4) (by omega)) ?_
  refine qX (qA rfl) rfl (qN rfl agg96 rfl (qU (i := 0) (ent := ⟨g, t, (addAll st V 4).map (int .u32) ++ (tl), tot⟩) (off := 4) rfl rfl (by exact app_left (i := 4) (B := tl) (qn (kd := .u32) (W := (addAll st V 4)) (i := 4) (by rw [(addAll_len hst 4)]; omega))))) ?_
  refine gx ?_
  refine qG (qA rfl) rfl (fun _ => qw rfl rfl rfl) ?_
  refine qG (qA rfl) rfl (fun _ => qf rfl rfl) ?_
  refine qG (qA rfl) rfl (fun _ => qh rfl Tryz.underlying138 size96 rfl rfl (i := 4) (by rfl) (by omega) (off' := 4) (by omega)) ?_
  refine TM.store1 (qA rfl) rfl rfl size96 rfl rfl rfl (i := 0) rfl rfl (by simp [(addAll_len hst 4)] <;> omega) (cs' := (addAll st V 5).map (int .u32) ++ (tl)) (set_left (by simp [(addAll_len hst 4)]) (ints_set)) (H' := [⟨g, t, (addAll st V 5).map (int .u32) ++ (tl), tot⟩, ⟨g1, 169, (sched B).map (int .u32), 64⟩]) rfl ?_
  iterate 2 refine gx ?_
  refine qC [0, 10, 11, 12] ?_
  refine gx ?_
  refine qs (by kernel_rfl) [0, 0, 0, 1, 0, 0, 0, 0, 2] rfl (by kernel_rfl) ?_
  refine gx ?_
  refine qG (qA rfl) rfl (fun _ => qf rfl rfl) ?_
  refine qG (qA rfl) rfl (fun _ => qh rfl Tryz.underlying138 size96 rfl rfl (i := 5) (by rfl) (by omega) (off' := 5) (by omega)) ?_
  refine qX (qA rfl) rfl (qN rfl agg96 rfl (qU (i := 0) (ent := ⟨g, t, (addAll st V 5).map (int .u32) ++ (tl), tot⟩) (off := 5) rfl rfl (by exact app_left (i := 5) (B := tl) (qn (kd := .u32) (W := (addAll st V 5)) (i := 5) (by rw [(addAll_len hst 5)]; omega))))) ?_
  refine gx ?_
  refine qG (qA rfl) rfl (fun _ => qw rfl rfl rfl) ?_
  refine qG (qA rfl) rfl (fun _ => qf rfl rfl) ?_
  refine qG (qA rfl) rfl (fun _ => qh rfl Tryz.underlying138 size96 rfl rfl (i := 5) (by rfl) (by omega) (off' := 5) (by omega)) ?_
  refine TM.store1 (qA rfl) rfl rfl size96 rfl rfl rfl (i := 0) rfl rfl (by simp [(addAll_len hst 5)] <;> omega) (cs' := (addAll st V 6).map (int .u32) ++ (tl)) (set_left (by simp [(addAll_len hst 5)]) (ints_set)) (H' := [⟨g, t, (addAll st V 6).map (int .u32) ++ (tl), tot⟩, ⟨g1, 169, (sched B).map (int .u32), 64⟩]) rfl ?_
  iterate 2 refine gx ?_
  refine qC [0, 11, 12] ?_
  refine gx ?_
  refine qs (by kernel_rfl) [0, 0, 0, 1, 0, 0, 0, 0, 2] rfl (by kernel_rfl) ?_
  refine gx ?_
  refine qG (qA rfl) rfl (fun _ => qf rfl rfl) ?_
  refine qG (qA rfl) rfl (fun _ => qh rfl Tryz.underlying138 size96 rfl rfl (i := 6) (by rfl) (by omega) (off' := 6) (by omega)) ?_
  refine qX (qA rfl) rfl (qN rfl agg96 rfl (qU (i := 0) (ent := ⟨g, t, (addAll st V 6).map (int .u32) ++ (tl), tot⟩) (off := 6) rfl rfl (by exact app_left (i := 6) (B := tl) (qn (kd := .u32) (W := (addAll st V 6)) (i := 6) (by rw [(addAll_len hst 6)]; omega))))) ?_
  refine gx ?_
  refine qG (qA rfl) rfl (fun _ => qw rfl rfl rfl) ?_
  refine qG (qA rfl) rfl (fun _ => qf rfl rfl) ?_
  refine qG (qA rfl) rfl (fun _ => qh rfl Tryz.underlying138 size96 rfl rfl (i := 6) (by rfl) (by omega) (off' := 6) (by omega)) ?_
  refine TM.store1 (qA rfl) rfl rfl size96 rfl rfl rfl (i := 0) rfl rfl (by simp [(addAll_len hst 6)] <;> omega) (cs' := (addAll st V 7).map (int .u32) ++ (tl)) (set_left (by simp [(addAll_len hst 6)]) (ints_set)) (H' := [⟨g, t, (addAll st V 7).map (int .u32) ++ (tl), tot⟩, ⟨g1, 169, (sched B).map (int .u32), 64⟩]) rfl ?_
  iterate 2 refine gx ?_
  refine qC [0, 12] ?_
  refine qs (by kernel_rfl) [0, 0, 0, 1, 0, 0, 0, 0, 2] rfl (by kernel_rfl) ?_
  refine gx ?_
  refine qG (qA rfl) rfl (fun _ => qf rfl rfl) ?_
  refine qG (qA rfl) rfl (fun _ => qh rfl Tryz.underlying138 size96 rfl rfl (i := 7) (by rfl) (by omega) (off' := 7) (by omega)) ?_
  refine qX (qA rfl) rfl (qN rfl agg96 rfl (qU (i := 0) (ent := ⟨g, t, (addAll st V 7).map (int .u32) ++ (tl), tot⟩) (off := 7) rfl rfl (by exact app_left (i := 7) (B := tl) (qn (kd := .u32) (W := (addAll st V 7)) (i := 7) (by rw [(addAll_len hst 7)]; omega))))) ?_
  refine gx ?_
  refine qG (qA rfl) rfl (fun _ => qw rfl rfl rfl) ?_
  refine qG (qA rfl) rfl (fun _ => qf rfl rfl) ?_
  refine qG (qA rfl) rfl (fun _ => qh rfl Tryz.underlying138 size96 rfl rfl (i := 7) (by rfl) (by omega) (off' := 7) (by omega)) ?_
  refine TM.store1 (qA rfl) rfl rfl size96 rfl rfl rfl (i := 0) rfl rfl (by simp [(addAll_len hst 7)] <;> omega) (cs' := (addAll st V 8).map (int .u32) ++ (tl)) (set_left (by simp [(addAll_len hst 7)]) (ints_set)) (H' := [⟨g, t, (addAll st V 8).map (int .u32) ++ (tl), tot⟩, ⟨g1, 169, (sched B).map (int .u32), 64⟩]) rfl ?_
  refine gx ?_
  exact TE.end0 rfl (fun w hs => ⟨rfl, by unfold mixS; rw [hV]; exact mix_end hs (by assumption) (by assumption)⟩)
/-
 The tables that start-up lays.
-/
open Go Go.RowKit Go.ChangeShapes Go.WideShapes Go.ChangeAt Go.Joins Go.Deep
theorem g0n : Tryz.prog.globalNamed "graft/sha.squareRoots" = some 0 := by kernel_rfl
theorem g1n : Tryz.prog.globalNamed "graft/sha.cubeRoots" = some 2 := by kernel_rfl
theorem t0n : (Tryz.prog.globals[0]?).map (·.type) = some 137 := by kernel_rfl
theorem t1n : (Tryz.prog.globals[2]?).map (·.type) = some 169 := by kernel_rfl
theorem c0n : Tryz.prog.cellsOf 137 = 8 := by kernel_rfl
theorem c1n : Tryz.prog.cellsOf 169 = 64 := by kernel_rfl
theorem c2n : Tryz.prog.cellsOf 96 = 1 := by kernel_rfl
theorem dIV : (Rows.laid_graft_sha_squareRoots : DataW Unit) = .agg (IV.map fun x => .lit (.int .u32 x)) := by kernel_rfl
theorem dKT : (Rows.laid_graft_sha_cubeRoots : DataW Unit) = .agg (KT.map fun x => .lit (.int .u32 x)) := by kernel_rfl
theorem rowI_of_var {W : World} {nm : String} {g n : Nat} {cs : Array Value} {T : List Int} (hg : Tryz.prog.globalNamed nm = some g) (hv : W.var? Tryz.prog nm = some cs) (hc : cs.toList = T.map (int .u32)) (hn : T.length = n) : RowI W g 0 n .u32 T := fun j hj => by
 rw [Nat.zero_add, World.var?_cell hg hv j, ← Array.getElem?_toList, hc]
 exact qn (by omega)
theorem of_laid {W : World} (h : laidMetH Tryz.prog [("graft/sha.squareRoots", Rows.laid_graft_sha_squareRoots), ("graft/sha.cubeRoots", Rows.laid_graft_sha_cubeRoots)] W) : 2 < W.heap.size ∧ RowI W 0 0 8 .u32 IV ∧ RowI W 2 0 64 .u32 KT := by
 rw [MakeChecks.laidMetH_plain _ _ _ (by kernel_rfl)] at h
 obtain ⟨ps, ⟨g0, t0, cs0, f0, p0, q0, hg0, ht0, hv0, hd0, ⟨g1, t1, cs1, f1, p1, q1, hg1, ht1, hv1, hd1, _, _⟩, _⟩, _, _⟩ := h
 obtain rfl := Option.some.inj (g0n.symm.trans hg0)
 obtain rfl := Option.some.inj (g1n.symm.trans hg1)
 obtain rfl := Option.some.inj (t0n.symm.trans ht0)
 obtain rfl := Option.some.inj (t1n.symm.trans ht1)
 rw [dIV] at hd0
 rw [dKT] at hd1
 have r0 := rowI_of_var g0n hv0 (cells_of_table Tryz.underlying137 Tryz.underlying96 c2n c0n hd0) (n := 8) rfl
 have r1 := rowI_of_var g1n hv1 (cells_of_table Tryz.underlying169 Tryz.underlying96 c2n c1n hd1) (n := 64) rfl
 exact ⟨World.block_lt_of_cell? W _ (r1 0 (by omega)), r0, r1⟩
theorem door_met (os : Os) (args : Array Value) : laidMetH Tryz.prog [("graft/sha.squareRoots", Rows.laid_graft_sha_squareRoots), ("graft/sha.cubeRoots", Rows.laid_graft_sha_cubeRoots)] ((World.doorLaid Tryz.prog 100 os).forCall (fun _ _ => 0) ⟨#[], args, []⟩).memory :=
 laidMetH_of_parts3 (fuel := 8) (laidMet_of_run' 8 (by kernel_rfl) (by kernel_rfl)) (by kernel_rfl) (by kernel_rfl)
/-
 A slice of slices of bytes that came in, with the bounds of its numbers.
-/
section
variable {H : Type} {enc : TypeId × Value → H} {P : Program} {W : World} {base fuel : Nat} {sp : Nat → Bool} {held : Bool} {t e : TypeId} {kd : IntKind}
end
/-
 Arguments opened: slices of numbers with their reach, slices of structs.
-/
set_option maxRecDepth 100000
theorem bytes_u8 : Tryz.prog.bytesOf 5 = 1 := by kernel_rfl
theorem open_bytesR {H : Type} {enc : TypeId × Value → H} {P : Program} {W : World} {t e : TypeId} {fuel : Nat} {v : Value} {y : DataW H × List MemPlace} (ht : P.underlying t = some (.slice e)) (he : P.underlying e = some (.int .u8)) (hc : P.cellsOf e = 1)
  (hf : DataW.trod enc P W 0 (fun _ => true) true fuel t [v] = some y) : ∃ (A : Option Addr) (m c : Nat) (B : List Int), v = .slice A m c ∧ m ≤ c ∧ c ≤ 9223372036854775807 ∧ Src W A m .u8 B ∧ (∀ x ∈ B, 0 ≤ x ∧ x ≤ 255) ∧ (c = 0 ∨ c * P.bytesOf e ∈ y.1.weights P t) := by
 rcases open_ints ht he hc hf with ⟨hcs, _⟩ | ⟨a, len, cap, zs, hcs, _, hl, hm, hz, hx, hcell, hwf⟩
 ·simp at hcs
  subst hcs
  exact ⟨none, 0, 0, [], rfl, Nat.le_refl _, by omega, ⟨rfl, .inl rfl⟩, by simp, .inl rfl⟩
 ·simp at hcs
  subst hcs
  simp only [if_true] at hz
  refine ⟨some a, len, cap, zs.take len, rfl, hl, hm, ⟨by simp; omega, ?_⟩, fun x hx => wf_u8b (hwf x (List.mem_of_mem_take hx)), .inr ?_⟩
  ·by_cases h0 : len = 0
   ·exact .inl h0
   ·right
    obtain ⟨b, off, spot⟩ := a
    have hc0 := hcell 0 (by omega)
    have hspot : spot = none := by simpa [Addr.add] using World.cell?_spot hc0
    subst hspot
    refine ⟨b, off, rfl, World.block_lt_of_cell? W _ hc0, fun j hj => ?_⟩
    have := hcell j (by omega)
    rw [addr_add] at this
    rw [this]
    simp [List.getD_eq_getElem?_getD, List.getElem?_take, hj]
  ·have hlen : (lits .u8 (zs.take len) : List (DataW H)).length + (lits .u8 (zs.drop len) : List (DataW H)).length = cap := by
    simp only [lits, List.length_map, List.length_take, List.length_drop]
    omega
   rw [hx]
   simp only [DataW.weights, ht, hlen]
   exact List.mem_cons_self
/-
 Arguments opened: commands, extents, arrays of three numbers.
-/
theorem cells_cmd : Tryz.prog.cellsOf 54 = 5 := by kernel_rfl
/-
 Mathematics of deltas, no program in it: targets that do not overlap and cover an interval: the smallest gap, sums of lengths, the sorted order.
-/
def hasB (p : Int × Int) (x : Int) : Prop := p.1 ≤ x ∧ x < p.1 + p.2
instance (p : Int × Int) (x : Int) : Decidable (hasB p x) := by unfold hasB; infer_instance
def okT (a N : Int) (p : Int × Int) : Prop := a ≤ p.1 ∧ 1 ≤ p.2 ∧ p.1 + p.2 ≤ N
def apartT (p q : Int × Int) : Prop := p.1 + p.2 ≤ q.1 ∨ q.1 + q.2 ≤ p.1
theorem apartT.symm {p q : Int × Int} (h : apartT p q) : apartT q p := Or.symm h
def tidyT (a N : Int) (l : List (Int × Int)) : Prop := (∀ p ∈ l, okT a N p) ∧ l.Pairwise apartT
def coverT (a N : Int) (l : List (Int × Int)) : Prop := ∀ x, a ≤ x → x < N → ∃ p ∈ l, hasB p x
def freeT (l : List (Int × Int)) (x : Int) : Prop := ∀ p ∈ l, ¬ hasB p x
def candT (l : List (Int × Int)) (c : Int) : Prop := c = 0 ∨ ∃ p ∈ l, c = p.1 + p.2
theorem cand_below {l : List (Int × Int)} {x : Int} (hx : freeT l x) : ∀ (n : Nat) (c : Int), candT l c → 0 ≤ c → c ≤ x → x - c ≤ n → ∃ g, candT l g ∧ freeT l g ∧ c ≤ g ∧ g ≤ x
 | n, c, hc, h0, h1, h2 => by
  by_cases hf : freeT l c
  ·exact ⟨c, hc, hf, by omega, h1⟩
  ·obtain ⟨p, hp, hb⟩ : ∃ p ∈ l, hasB p c := by
    apply Classical.byContradiction
    intro hno
    exact hf fun p hp hb => hno ⟨p, hp, hb⟩
   have hxp := hx p hp
   unfold hasB at hb hxp
   match n, h2 with
   | 0, h2 => exfalso; omega
   | n + 1, h2 =>
    obtain ⟨g, hg1, hg2, hg3, hg4⟩ := cand_below hx n (p.1 + p.2) (.inr ⟨p, hp, rfl⟩) (by omega) (by omega) (by omega)
    exact ⟨g, hg1, hg2, by omega, hg4⟩
theorem cand_of_free {l : List (Int × Int)} {x : Int} (h0 : 0 ≤ x) (hx : freeT l x) : ∃ g, candT l g ∧ freeT l g ∧ 0 ≤ g ∧ g ≤ x := by
 obtain ⟨g, h1, h2, h3, h4⟩ := cand_below hx x.toNat 0 (.inl rfl) (by omega) h0 (by omega)
 exact ⟨g, h1, h2, h3, h4⟩
def leastT (N : Int) (l : List (Int × Int)) (g : Int) : Prop := 0 ≤ g ∧ g < N ∧ freeT l g ∧ ∀ x, 0 ≤ x → x < g → ¬ freeT l x
theorem leastT_unique {N g h : Int} {l : List (Int × Int)} (hg : leastT N l g) (hh : leastT N l h) : g = h := by
 obtain ⟨g1, g2, g3, g4⟩ := hg
 obtain ⟨h1, h2, h3, h4⟩ := hh
 have a : ¬ h < g := fun c => g4 h h1 c h3
 have b : ¬ g < h := fun c => h4 g g1 c g3
 omega
theorem leastT_of_cand {N g : Int} {l : List (Int × Int)} (h0 : 0 ≤ g) (hN : g < N) (hf : freeT l g) (hm : ∀ c, candT l c → 0 ≤ c → c < N → freeT l c → g ≤ c) : leastT N l g := by
 refine ⟨h0, hN, hf, fun x hx hxg hfx => ?_⟩
 obtain ⟨c, h1, h2, h3, h4⟩ := cand_of_free hx hfx
 have := hm c h1 h3 (by omega) h2
 omega
theorem cover_of_cand {N : Int} {l : List (Int × Int)} (hm : ∀ c, candT l c → 0 ≤ c → c < N → ¬ freeT l c) : coverT 0 N l := fun x hx hxN => by
 apply Classical.byContradiction
 intro hno
 obtain ⟨c, h1, h2, h3, h4⟩ := cand_of_free (l := l) hx (fun p hp hb => hno ⟨p, hp, hb⟩)
 exact hm c h1 h3 (by omega) h2
def sumT (l : List (Int × Int)) : Int := (l.map (·.2)).sum
theorem sumT_cons (p : Int × Int) (l : List (Int × Int)) : sumT (p :: l) = p.2 + sumT l := by simp [sumT]
theorem sumT_app (l r : List (Int × Int)) : sumT (l ++ r) = sumT l + sumT r := by simp [sumT]
theorem sumT_perm {l r : List (Int × Int)} (h : l.Perm r) : sumT l = sumT r := by
 induction h with
 | nil => rfl
 | cons p _ ih => rw [sumT_cons, sumT_cons, ih]
 | swap p q l => rw [sumT_cons, sumT_cons, sumT_cons, sumT_cons]; omega
 | trans _ _ ih1 ih2 => rw [ih1, ih2]
def chainT (a : Int) : List (Int × Int) → Prop
 | [] => True
 | p :: l => p.1 = a ∧ chainT (a + p.2) l
theorem chain_of_sorted {N : Int} : ∀ {l : List (Int × Int)} {a : Int}, a ≤ N → tidyT a N l → coverT a N l → l.Pairwise (fun p q => p.1 ≤ q.1) → chainT a l ∧ a + sumT l = N
 | [], a, haN, ht, hc, _ => by
  refine ⟨trivial, ?_⟩
  have : ¬ a < N := fun h => by
   obtain ⟨p, hp, _⟩ := hc a (Int.le_refl a) h
   cases hp
  simp [sumT]; omega
 | p :: l, a, haN, ht, hc, hs => by
  obtain ⟨hok, hap⟩ := ht
  have hp := hok p List.mem_cons_self
  unfold okT at hp
  obtain ⟨q, hq, hb⟩ := hc a (Int.le_refl a) (by omega)
  have hqok := hok q hq
  unfold okT at hqok
  unfold hasB at hb
  have hpa : p.1 = a := by
   rcases List.mem_cons.1 hq with rfl | hq
   ·omega
   ·have := (List.pairwise_cons.1 hs).1 q hq
    omega
  have hall := (List.pairwise_cons.1 hap).1
  have hrec := chain_of_sorted (N := N) (l := l) (a := a + p.2) (by omega) ⟨fun q hq => by
    have h1 := hok q (by simp [hq])
    have h2 := hall q hq
    have h3 := (List.pairwise_cons.1 hs).1 q hq
    unfold okT at h1 ⊢
    unfold apartT at h2
    omega, (List.pairwise_cons.1 hap).2⟩ (fun x hx hxN => by
    obtain ⟨q, hq, hb⟩ := hc x (by omega) hxN
    rcases List.mem_cons.1 hq with rfl | hq
    ·unfold hasB at hb; omega
    ·exact ⟨q, hq, hb⟩) (List.pairwise_cons.1 hs).2
  rw [sumT_cons]
  exact ⟨⟨hpa, hrec.1⟩, by omega⟩
theorem tidy_of_chain {N : Int} : ∀ {l : List (Int × Int)} {a : Int}, (∀ p ∈ l, 1 ≤ p.2) → chainT a l → a + sumT l = N → tidyT a N l ∧ coverT a N l ∧ l.Pairwise (fun p q => p.1 < q.1)
 | [], a, _, _, hs => ⟨⟨by simp, .nil⟩, fun x h1 h2 => by simp [sumT] at hs; omega, .nil⟩
 | p :: l, a, hl, hc, hs => by
  obtain ⟨hp, hc⟩ := hc
  rw [sumT_cons] at hs
  have h1 := hl p List.mem_cons_self
  obtain ⟨⟨r1, r2⟩, r3, r4⟩ := tidy_of_chain (N := N) (l := l) (a := a + p.2) (fun q hq => hl q (by simp [hq])) hc (by omega)
  have hge : 0 ≤ sumT l := by
   have : ∀ l : List (Int × Int), (∀ p ∈ l, 1 ≤ p.2) → 0 ≤ sumT l := fun l => by
    induction l with
    | nil => intro _; simp [sumT]
    | cons q l ih => intro h; rw [sumT_cons]; have := h q List.mem_cons_self; have := ih (fun p hp => h p (by simp [hp])); omega
   exact this l (fun q hq => hl q (by simp [hq]))
  refine ⟨⟨fun q hq => ?_, .cons (fun q hq => ?_) r2⟩, fun x hx hxN => ?_, .cons (fun q hq => ?_) r4⟩
  ·rcases List.mem_cons.1 hq with rfl | hq
   ·unfold okT; omega
   ·have := r1 q hq; unfold okT at this ⊢; omega
  ·have := r1 q hq; unfold okT at this; unfold apartT; omega
  ·by_cases hlt : x < a + p.2
   ·exact ⟨p, List.mem_cons_self, by unfold hasB; omega⟩
   ·obtain ⟨q, hq, hb⟩ := r3 x (by omega) hxN
    exact ⟨q, by simp [hq], hb⟩
  ·have := r1 q hq; unfold okT at this; omega
theorem tidyT.perm {a N : Int} {l r : List (Int × Int)} (h : tidyT a N l) (hp : l.Perm r) : tidyT a N r := ⟨fun p hr => h.1 p (hp.mem_iff.2 hr), h.2.perm hp apartT.symm⟩
theorem coverT.perm {a N : Int} {l r : List (Int × Int)} (h : coverT a N l) (hp : l.Perm r) : coverT a N r := fun x h1 h2 => by
 obtain ⟨p, hl, hb⟩ := h x h1 h2
 exact ⟨p, hp.mem_iff.1 hl, hb⟩
theorem freeT.perm {l r : List (Int × Int)} {x : Int} (h : freeT l x) (hp : l.Perm r) : freeT r x := fun p hr => h p (hp.mem_iff.2 hr)
theorem sum_of_cover {a N : Int} {l : List (Int × Int)} (haN : a ≤ N) (ht : tidyT a N l) (hc : coverT a N l) : a + sumT l = N := by
 let r := l.mergeSort (fun p q => decide (p.1 ≤ q.1))
 have hp : r.Perm l := List.mergeSort_perm l _
 have hs : r.Pairwise (fun p q => decide (p.1 ≤ q.1) = true) := List.pairwise_mergeSort (by intro a b c h1 h2; simp at h1 h2 ⊢; omega) (by intro a b; simp; omega) l
 have := (chain_of_sorted haN (ht.perm hp.symm) (hc.perm hp.symm) (hs.imp (by intro p q h; simpa using h))).2
 rw [← sumT_perm hp]; exact this
section
variable {α : Type} (key : α → Int)
end
/-
 Contracts of package sha: the digest of a state, the end of a message.
-/
theorem agg138 : (isAgg 138).run Tryz.prog = fun w => .ok true w := isAgg_yes Tryz.underlying138 rfl
theorem agg23 : (isAgg 23).run Tryz.prog = fun w => .ok true w := isAgg_yes Tryz.underlying23 rfl
theorem mk5 : (Tryz.prog.info? 5).map (fun i => (i.zero, i.size, i.bytes)) = some (some (.int .u8 0), 1, 1) := by kernel_rfl
theorem size138 : (Tryz.prog.info? 138).map (·.size) = some 8 := by kernel_rfl
theorem size23 : (Tryz.prog.info? 23).map (·.size) = some 32 := by kernel_rfl
theorem zero23 : (Tryz.prog.info? 23).bind (·.zero) = some (.agg #[.int .u8 0, .int .u8 0, .int .u8 0, .int .u8 0, .int .u8 0, .int .u8 0, .int .u8 0, .int .u8 0, .int .u8 0, .int .u8 0, .int .u8 0, .int .u8 0, .int .u8 0, .int .u8 0, .int .u8 0, .int .u8 0, .int .u8 0, .int .u8 0, .int .u8 0, .int .u8 0, .int .u8 0, .int .u8 0, .int .u8 0, .int .u8 0, .int .u8 0, .int .u8 0, .int .u8 0, .int .u8 0, .int .u8 0, .int .u8 0, .int .u8 0, .int .u8 0]) := by kernel_rfl
theorem zero5 : (Tryz.prog.info? 5).bind (·.zero) = some (.int .u8 0) := by kernel_rfl
def digB (st : List Int) : Nat → List Int
 | 0 => List.replicate 32 0
 | k + 1 => ((((digB st k).set (4 * k) (IntKind.u8.wrap (shrI .u32 (st.getD k 0) 24))).set (4 * k + 1) (IntKind.u8.wrap (shrI .u32 (st.getD k 0) 16))).set (4 * k + 2) (IntKind.u8.wrap (shrI .u32 (st.getD k 0) 8))).set (4 * k + 3) (IntKind.u8.wrap (st.getD k 0))
theorem digB_len (st : List Int) : ∀ k, (digB st k).length = 32
 | 0 => by simp [digB]
 | k + 1 => by simp [digB, digB_len st k]
theorem digest_c (st : List Int) (tl : List Value) (g t tot : Nat) (w : World) (hst : st.length = 8) (hl : Ent.lies ⟨g, t, st.map (int .u32) ++ (tl), tot⟩ w) : Calls Tryz.prog 96 #[.pointer (some ⟨g, 0, none⟩)] w fun e w' => e = .returned (.agg ((digB st 8).map (int .u8)).toArray) ∧ St w [] w' := by
 have hg : g < w.heap.size := hl.lt
 refine qM (args := [.pointer (some ⟨g, 0, none⟩)]) Tryz.func96 rfl Tryz.ntmps96 (by simp) ?_
 refine qC [0] ?_
 iterate 2 refine gx ?_
 refine TL.alloc (qA rfl) rfl rfl zero23 (cs := (List.replicate 32 0).map (int .u8)) rfl (tot := 32) (by simp) (fun g1 hg1 => ?_)
 iterate 4 refine gx ?_
 refine TL.alloc (qA rfl) rfl rfl zero23 (cs := (List.replicate 32 0).map (int .u8)) rfl (tot := 32) (by simp) (fun g2 hg2 => ?_)
 iterate 6 refine gx ?_
 refine qB (qA rfl) rfl (qf rfl rfl) ?_
 refine qB (qA rfl) rfl (qj rfl agg138 size138 rfl (vs := st.map (int .u32)) (by simp [hst]) (Row.old (lies_row hl) hg (qD (by show g2 ≠ g; omega) (qD (by show g1 ≠ g; omega) qE)))) ?_
 iterate 4 refine gx ?_
 refine qp (ι := Nat) (fun k => [(2, .pointer (some ⟨g1, 0, none⟩)), (3, .pointer (some ⟨g2, 0, none⟩)), (8, .agg (st.map (int .u32)).toArray), (9, .int .i64 (k : Int))]) (fun k => [⟨g2, 23, (digB st k).map (int .u8), 32⟩, ⟨g1, 23, (List.replicate 32 0).map (int .u8), 32⟩]) (fun k => 8 - k) (fun k => k ≤ 8) 0 (by omega) (qK (i := 2) rfl (qK (i := 3) rfl (qK (i := 8) rfl (qF (i := 9) rfl (by first | omega | rfl) (qO))))) (fun w h => h) (fun k hC0 => ?_)
 iterate 6 refine gx ?_
 refine qP rfl (fun h0 => ?_) (fun h0 => ?_)
 ·iterate 7 refine gx ?_
  refine qB (qA rfl) rfl (Gets.index1 rfl Tryz.underlying138 agg96 size96 rfl rfl (i := k) (by omega) (by omega) (arr_get (qn (kd := .u32) (W := st) (i := k) (by rw [hst]; omega)))) ?_
  iterate 4 refine gx ?_
  refine qC [2, 3, 4, 5, 8, 9] ?_
  iterate 2 refine gx ?_
  refine qB (qA rfl) rfl (Gets.mul rfl rfl rfl (r := (4 * (k : Int))) (w64 (by omega) (by omega))) ?_
  refine gx ?_
  refine qB (qA rfl) rfl (Gets.mul rfl rfl rfl (r := (4 * (k : Int))) (w64 (by omega) (by omega))) ?_
  refine qB (qA rfl) rfl (qQ rfl rfl rfl (r := (4 * (k : Int) + 1)) (w64 (by omega) (by omega))) ?_
  refine gx ?_
  refine qB (qA rfl) rfl (Gets.mul rfl rfl rfl (r := (4 * (k : Int))) (w64 (by omega) (by omega))) ?_
  refine qB (qA rfl) rfl (qQ rfl rfl rfl (r := (4 * (k : Int) + 2)) (w64 (by omega) (by omega))) ?_
  refine gx ?_
  refine qB (qA rfl) rfl (Gets.mul rfl rfl rfl (r := (4 * (k : Int))) (w64 (by omega) (by omega))) ?_
  refine qB (qA rfl) rfl (qQ rfl rfl rfl (r := (4 * (k : Int) + 3)) (w64 (by omega) (by omega))) ?_
  refine gx ?_
  refine qB (qA rfl) rfl (Gets.shr rfl rfl rfl (by omega) (r := (shrI .u32 (st.getD k 0) 24)) rfl) ?_
  refine qB (qA rfl) rfl (zE rfl Tryz.underlying96 Tryz.underlying5 rfl (r := (IntKind.u8.wrap (shrI .u32 (st.getD k 0) 24))) rfl) ?_
  refine gx ?_
  refine qB (qA rfl) rfl (Gets.shr rfl rfl rfl (by omega) (r := (shrI .u32 (st.getD k 0) 16)) rfl) ?_
  refine qB (qA rfl) rfl (zE rfl Tryz.underlying96 Tryz.underlying5 rfl (r := (IntKind.u8.wrap (shrI .u32 (st.getD k 0) 16))) rfl) ?_
  refine gx ?_
  refine qB (qA rfl) rfl (Gets.shr rfl rfl rfl (by omega) (r := (shrI .u32 (st.getD k 0) 8)) rfl) ?_
  refine qB (qA rfl) rfl (zE rfl Tryz.underlying96 Tryz.underlying5 rfl (r := (IntKind.u8.wrap (shrI .u32 (st.getD k 0) 8))) rfl) ?_
  refine gx ?_
  refine qB (qA rfl) rfl (zE rfl Tryz.underlying96 Tryz.underlying5 rfl (r := (IntKind.u8.wrap (st.getD k 0))) rfl) ?_
  refine qB (qA rfl) rfl (qh rfl Tryz.underlying23 size5 rfl rfl (i := (4 * k)) (by omega) (by omega) (off' := (4 * k)) (by omega)) ?_
  refine qv (qA rfl) rfl rfl size5 rfl rfl rfl (i := 0) rfl rfl (by simp [(digB_len st k)] <;> omega) (cs' := ((digB st k).set (4 * k) (IntKind.u8.wrap (shrI .u32 (st.getD k 0) 24))).map (int .u8)) (ints_set) (H' := [⟨g2, 23, ((digB st k).set (4 * k) (IntKind.u8.wrap (shrI .u32 (st.getD k 0) 24))).map (int .u8), 32⟩, ⟨g1, 23, (List.replicate 32 0).map (int .u8), 32⟩]) rfl ?_
  refine qB (qA rfl) rfl (qh rfl Tryz.underlying23 size5 rfl rfl (i := (4 * k + 1)) (by omega) (by omega) (off' := (4 * k + 1)) (by omega)) ?_
  refine qv (qA rfl) rfl rfl size5 rfl rfl rfl (i := 0) rfl rfl (by simp [(digB_len st k)] <;> omega) (cs' := (((digB st k).set (4 * k) (IntKind.u8.wrap (shrI .u32 (st.getD k 0) 24))).set (4 * k + 1) (IntKind.u8.wrap (shrI .u32 (st.getD k 0) 16))).map (int .u8)) (ints_set) (H' := [⟨g2, 23, (((digB st k).set (4 * k) (IntKind.u8.wrap (shrI .u32 (st.getD k 0) 24))).set (4 * k + 1) (IntKind.u8.wrap (shrI .u32 (st.getD k 0) 16))).map (int .u8), 32⟩, ⟨g1, 23, (List.replicate 32 0).map (int .u8), 32⟩]) rfl ?_
  refine qB (qA rfl) rfl (qh rfl Tryz.underlying23 size5 rfl rfl (i := (4 * k + 2)) (by omega) (by omega) (off' := (4 * k + 2)) (by omega)) ?_
  refine qv (qA rfl) rfl rfl size5 rfl rfl rfl (i := 0) rfl rfl (by simp [(digB_len st k)] <;> omega) (cs' := ((((digB st k).set (4 * k) (IntKind.u8.wrap (shrI .u32 (st.getD k 0) 24))).set (4 * k + 1) (IntKind.u8.wrap (shrI .u32 (st.getD k 0) 16))).set (4 * k + 2) (IntKind.u8.wrap (shrI .u32 (st.getD k 0) 8))).map (int .u8)) (ints_set) (H' := [⟨g2, 23, ((((digB st k).set (4 * k) (IntKind.u8.wrap (shrI .u32 (st.getD k 0) 24))).set (4 * k + 1) (IntKind.u8.wrap (shrI .u32 (st.getD k 0) 16))).set (4 * k + 2) (IntKind.u8.wrap (shrI .u32 (st.getD k 0) 8))).map (int .u8), 32⟩, ⟨g1, 23, (List.replicate 32 0).map (int .u8), 32⟩]) rfl ?_
  refine qB (qA rfl) rfl (qh rfl Tryz.underlying23 size5 rfl rfl (i := (4 * k + 3)) (by omega) (by omega) (off' := (4 * k + 3)) (by omega)) ?_
  refine qv (qA rfl) rfl rfl size5 rfl rfl rfl (i := 0) rfl rfl (by simp [(digB_len st k)] <;> omega) (cs' := (((((digB st k).set (4 * k) (IntKind.u8.wrap (shrI .u32 (st.getD k 0) 24))).set (4 * k + 1) (IntKind.u8.wrap (shrI .u32 (st.getD k 0) 16))).set (4 * k + 2) (IntKind.u8.wrap (shrI .u32 (st.getD k 0) 8))).set (4 * k + 3) (IntKind.u8.wrap (st.getD k 0))).map (int .u8)) (ints_set) (H' := [⟨g2, 23, (((((digB st k).set (4 * k) (IntKind.u8.wrap (shrI .u32 (st.getD k 0) 24))).set (4 * k + 1) (IntKind.u8.wrap (shrI .u32 (st.getD k 0) 16))).set (4 * k + 2) (IntKind.u8.wrap (shrI .u32 (st.getD k 0) 8))).set (4 * k + 3) (IntKind.u8.wrap (st.getD k 0))).map (int .u8), 32⟩, ⟨g1, 23, (List.replicate 32 0).map (int .u8), 32⟩]) rfl ?_
  iterate 3 refine gx ?_
  refine qC [2, 3, 8, 9] ?_
  refine gx ?_
  refine qB (qA rfl) rfl (qQ rfl rfl rfl (r := ((k : Int) + 1)) (w64 (by omega) (by omega))) ?_
  iterate 2 refine gx ?_
  exact qd (k + 1) (by omega) (by omega) (qK (i := 2) rfl (qK (i := 3) rfl (qK (i := 8) rfl (qF (i := 9) rfl (by first | omega | rfl) (qO))))) (fun w h => h)
 ·obtain rfl : k = 8 := by omega
  have Dl := digB_len st 8
  generalize hD : digB st 8 = D at Dl ⊢
  iterate 7 refine gx ?_
  refine qB (qA rfl) rfl (qj rfl agg23 size23 rfl (vs := D.map (int .u8)) (by simp [Dl]) (qW (i := 0) (ent := ⟨g2, 23, D.map (int .u8), 32⟩) rfl rfl rfl)) ?_
  refine TL.storeW (qA rfl) rfl rfl size23 rfl (vs := D.map (int .u8)) rfl (by simp [Dl]) zB (i := 1) (ent := ⟨g1, 23, (List.replicate 32 0).map (int .u8), 32⟩) rfl rfl (by simp []) (H' := [⟨g2, 23, D.map (int .u8), 32⟩, ⟨g1, 23, D.map (int .u8), 32⟩]) rfl ?_
  iterate 3 refine gx ?_
  exact qo rfl agg23 size23 rfl (vs := D.map (int .u8)) (by simp [Dl]) (qW (i := 1) (ent := ⟨g1, 23, D.map (int .u8), 32⟩) rfl rfl rfl) (fun w hs => ⟨rfl, hs.dp⟩)
def zerosN (n : Nat) : Nat := (119 - n % 64) % 64
def endB (n : Nat) : Nat → List Int
 | 0 => (List.replicate (zerosN n + 9) 0).set 0 128
 | k + 1 => (endB n k).set (zerosN n + k + 1) (IntKind.u8.wrap (shrI .u64 (mulW .u64 n 8) (56 - 8 * k)))
theorem endB_len (n : Nat) : ∀ k, (endB n k).length = zerosN n + 9
 | 0 => by simp [endB]
 | k + 1 => by simp [endB, endB_len n k]
theorem zerosN_int (n : Nat) : (119 - (n : Int) % 64) % 64 = zerosN n := by unfold zerosN; omega
theorem zerosN_lt (n : Nat) : zerosN n < 64 := by unfold zerosN; omega
theorem ending_c (n : Nat) (w : World) (hn : n ≤ 4611686018427387903) : Calls Tryz.prog 95 #[.int .i64 (n : Int)] w fun e w' => ∃ g, e = .returned (.slice (some ⟨g, 0, none⟩) (zerosN n + 9) (zerosN n + 9)) ∧ w.heap.size ≤ g ∧ St w [⟨g, 5, (endB n 8).map (int .u8), zerosN n + 9⟩] w' := by
 have hz := zerosN_lt n
 refine qM (args := [.int .i64 (n : Int)]) Tryz.func95 rfl Tryz.ntmps95 (by simp) ?_
 refine qC [0] ?_
 iterate 8 refine gx ?_
 refine qB (qA rfl) rfl (Gets.rem rfl rfl rfl (by omega) (r := ((n : Int) % 64)) (tmod_pos (by omega) rfl)) ?_
 refine qB (qA rfl) rfl (qy rfl rfl rfl (r := (119 - ((n : Int) % 64))) (w64 (by omega) (by omega))) ?_
 refine qB (qA rfl) rfl (Gets.rem rfl rfl rfl (by omega) (r := (zerosN n : Int)) (tmod_pos (by omega) (zerosN_int n))) ?_
 iterate 6 refine gx ?_
 refine qB (qA rfl) rfl (qQ rfl rfl rfl (r := ((zerosN n : Int) + 1)) (w64 (by omega) (by omega))) ?_
 refine gx ?_
 refine qB (qA rfl) rfl (qQ rfl rfl rfl (r := ((zerosN n : Int) + 1)) (w64 (by omega) (by omega))) ?_
 refine qB (qA rfl) rfl (qQ rfl rfl rfl (r := ((zerosN n : Int) + 9)) (w64 (by omega) (by omega))) ?_
 refine TL.makeSlice1 (qA rfl) rfl rfl Tryz.underlying22 mk5 rfl rfl rfl (ln := ((zerosN n) + 1)) (cp := ((zerosN n) + 9)) (by omega) (by omega) (by omega) (by omega) (by omega) (fun g1 hg1 => ?_)
 rw [show List.replicate ((zerosN n) + 9) (.int .u8 0) = (List.replicate ((zerosN n) + 9) 0).map (int .u8) from (List.map_replicate ..).symm]
 iterate 3 refine gx ?_
 refine qC [0, 2, 4] ?_
 iterate 3 refine gx ?_
 refine qB (qA rfl) rfl (qe rfl Tryz.underlying22 size5 rfl rfl (i := 0) (by rfl) (by omega) (off' := 0) (by omega)) ?_
 refine qv (qA rfl) rfl rfl size5 rfl rfl rfl (i := 0) rfl rfl (by simp [] <;> omega) (cs' := (endB n 0).map (int .u8)) (ints_set) (H' := [⟨g1, 5, (endB n 0).map (int .u8), ((zerosN n) + 9)⟩]) rfl ?_
 iterate 5 refine gx ?_
 refine qB (qA rfl) rfl (zE rfl Tryz.underlying3 Tryz.underlying73 rfl (r := (n : Int)) (wu64 rfl (by omega))) ?_
 refine qB (qA rfl) rfl (Gets.mulU rfl rfl rfl) ?_
 iterate 3 refine gx ?_
 refine qC [2, 4, 5] ?_
 iterate 7 refine gx ?_
 refine qp (ι := Nat) (fun k => [(4, .slice (some ⟨g1, 0, none⟩) ((zerosN n) + k + 1) ((zerosN n) + 9)), (5, .int .u64 (mulW .u64 (n : Int) 8)), (6, .int .i64 (56 - 8 * (k : Int)))]) (fun k => [⟨g1, 5, (endB n k).map (int .u8), (zerosN n + 9)⟩]) (fun k => 8 - k) (fun k => k ≤ 8) 0 (by omega) (qT (i := 4) rfl rfl (by first | omega | (dsimp only; omega) | rfl) (by first | omega | (dsimp only; omega) | rfl) (qF (i := 5) rfl (by first | rfl | omega) (qF (i := 6) rfl (by first | omega | rfl) (qO)))) (fun w h => h) (fun k hC0 => ?_)
 iterate 7 refine gx ?_
 refine qP rfl (fun h0 => ?_) (fun h0 => ?_)
 ·iterate 8 refine gx ?_
  refine qB (qA rfl) rfl (Gets.shr rfl rfl rfl (by omega) (r := (shrI .u64 (mulW .u64 (n : Int) 8) (56 - 8 * (k : Int)))) rfl) ?_
  refine qB (qA rfl) rfl (zE rfl Tryz.underlying73 Tryz.underlying5 rfl (r := (IntKind.u8.wrap (shrI .u64 (mulW .u64 (n : Int) 8) (56 - 8 * (k : Int))))) rfl) ?_
  refine zH (qA rfl) rfl rfl Tryz.underlying22 size5 zero5 rfl (by decide) (by decide) (cells := #[.int .u8 (IntKind.u8.wrap (shrI .u64 (mulW .u64 (n : Int) 8) (56 - 8 * (k : Int))))]) (tot := 1) (by kernel_rfl) (cs := [.int .u8 (IntKind.u8.wrap (shrI .u64 (mulW .u64 (n : Int) 8) (56 - 8 * (k : Int))))]) rfl rfl (fun g2 hg2 => ?_)
  refine TL.append1 (qA rfl) rfl rfl Tryz.underlying22 size5 rfl rfl (i := 1) (j := 0) rfl rfl rfl rfl rfl (by omega) (by simp [(endB_len n k)] <;> omega) (cs' := ((endB n k).set ((zerosN n) + k + 1) (IntKind.u8.wrap (shrI .u64 (mulW .u64 (n : Int) 8) (56 - 8 * (k : Int))))).map (int .u8)) (ints_set) (H' := [⟨g2, 5, [int .u8 (IntKind.u8.wrap (shrI .u64 (mulW .u64 (n : Int) 8) (56 - 8 * (k : Int))))], 1⟩, ⟨g1, 5, ((endB n k).set ((zerosN n) + k + 1) (IntKind.u8.wrap (shrI .u64 (mulW .u64 (n : Int) 8) (56 - 8 * (k : Int))))).map (int .u8), (zerosN n + 9)⟩]) rfl (ln' := ((zerosN n) + k + 2)) (by omega) ?_
  iterate 4 refine gx ?_
  refine qC [4, 5, 6] ?_
  iterate 2 refine gx ?_
  refine qB (qA rfl) rfl (qy rfl rfl rfl (r := (48 - 8 * (k : Int))) (w64 (by omega) (by omega))) ?_
  iterate 2 refine gx ?_
  exact qd (k + 1) (by omega) (by omega) (qT (i := 4) rfl rfl (by first | omega | (dsimp only; omega) | rfl) (by first | omega | (dsimp only; omega) | rfl) (qF (i := 5) rfl (by first | rfl | omega) (qF (i := 6) rfl (by first | omega | rfl) (qO)))) (fun w h => h.drop (by assumption))
 ·obtain rfl : k = 8 := by omega
  have El := endB_len n 8
  generalize hE : endB n 8 = E at El ⊢
  iterate 12 refine gx ?_
  exact qJ rfl rfl (fun w hs => ⟨g1, rfl, hg1, hs⟩)
/-
 Contracts of package sha: the message by its blocks; New, Len, Clone.
-/
theorem agg137 : (isAgg 137).run Tryz.prog = fun w => .ok true w := isAgg_yes Tryz.underlying137 rfl
theorem size137 : (Tryz.prog.info? 137).map (·.size) = some 8 := by kernel_rfl
def blk (M : List Int) (i : Nat) : List Int := (M.drop (64 * i)).take 64
def cmp (M : List Int) : Nat → List Int
 | 0 => IV
 | i + 1 => mixS (cmp M i) (blk M i)
theorem cmp_succ (M : List Int) (i : Nat) : cmp M (i + 1) = mixS (cmp M i) (blk M i) := rfl
theorem cmp_len (M : List Int) : ∀ i, (cmp M i).length = 8
 | 0 => rfl
 | i + 1 => mixS_len (cmp_len M i)
theorem blk_app (M P : List Int) (i : Nat) (h : 64 * i + 64 ≤ M.length) : blk (M ++ P) i = blk M i := by
 unfold blk
 rw [List.drop_append_of_le_length (by omega), List.take_append_of_le_length (by simp; omega)]
theorem cmp_app (M P : List Int) : ∀ i, 64 * i ≤ M.length → cmp (M ++ P) i = cmp M i
 | 0, _ => rfl
 | i + 1, h => by unfold cmp; rw [cmp_app M P i (by omega), blk_app M P i (by omega)]
theorem blk_get (M : List Int) (i j : Nat) (h : j < 64) : (blk M i).getD j 0 = M.getD (64 * i + j) 0 := by
 unfold blk; simp [List.getD_eq_getElem?_getD, List.getElem?_take, h]
theorem app_get1 (M P : List Int) (j : Nat) (h : j < M.length) : (M ++ P).getD j 0 = M.getD j 0 := by
 simp [List.getD_eq_getElem?_getD, List.getElem?_append, h]
theorem app_get2 (M P : List Int) (j : Nat) (h : M.length ≤ j) : (M ++ P).getD j 0 = P.getD (j - M.length) 0 := by
 simp [List.getD_eq_getElem?_getD, List.getElem?_append, show ¬ j < M.length by omega]
theorem drop_get (P : List Int) (q j : Nat) : (P.drop q).getD j 0 = P.getD (q + j) 0 := by simp [List.getD_eq_getElem?_getD]
theorem take_get (P : List Int) (q j : Nat) (h : j < q) : (P.take q).getD j 0 = P.getD j 0 := by simp [List.getD_eq_getElem?_getD, List.getElem?_take, h]
theorem IV_len : IV.length = 8 := rfl
def HashOK (M st rs : List Int) : Prop := st = cmp M (M.length / 64) ∧ rs.length = 64 ∧ ∀ j, j < M.length % 64 → rs.getD j 0 = M.getD (64 * (M.length / 64) + j) 0
theorem HashOK.len {M st rs : List Int} (h : HashOK M st rs) : st.length = 8 := by rw [h.1]; exact cmp_len ..
theorem HashOK.rlen {M st rs : List Int} (h : HashOK M st rs) : rs.length = 64 := h.2.1
theorem hash_nil : HashOK [] IV (List.replicate 64 0) := ⟨rfl, by simp, fun j hj => by simp at hj⟩
def splice (rs : List Int) (o : Nat) (X : List Int) : List Int := rs.take o ++ X ++ rs.drop (o + X.length)
theorem splice_len {rs X : List Int} {o : Nat} (h : o + X.length ≤ rs.length) : (splice rs o X).length = rs.length := by unfold splice; simp; omega
theorem splice_get {rs X : List Int} {o j : Nat} (h : o + X.length ≤ rs.length) : (splice rs o X).getD j 0 = if j < o then rs.getD j 0 else if j < o + X.length then X.getD (j - o) 0 else rs.getD j 0 := by
 unfold splice
 have ho : (rs.take o).length = o := by simp; omega
 by_cases h1 : j < o
 ·rw [if_pos h1, List.append_assoc, app_get1 _ _ _ (by omega), take_get _ _ _ h1]
 ·rw [if_neg h1]
  by_cases h2 : j < o + X.length
  ·rw [if_pos h2, app_get1 _ _ _ (by simp; omega), app_get2 _ _ _ (by omega), ho]
  ·rw [if_neg h2, app_get2 _ _ _ (by simp; omega), drop_get]
   congr 1
   simp; omega
theorem hash_short {M P st rs : List Int} (h : HashOK M st rs) (hm : M.length % 64 + P.length < 64) : HashOK (M ++ P) st (splice rs (M.length % 64) P) := by
 obtain ⟨h1, h2, h3⟩ := h
 have hd : (M ++ P).length / 64 = M.length / 64 := by simp; omega
 refine ⟨by rw [hd, cmp_app _ _ _ (by omega)]; exact h1, by rw [splice_len (by omega)]; exact h2, fun j hj => ?_⟩
 rw [hd, splice_get (by omega)]
 have hj2 : j < M.length % 64 + P.length := by simp at hj; omega
 by_cases h4 : j < M.length % 64
 ·rw [if_pos h4, h3 j h4, app_get1 _ _ _ (by omega)]
 ·rw [if_neg h4, if_pos hj2, app_get2 _ _ _ (by omega)]
  congr 1; omega
theorem hash_full {M P st rs : List Int} (h : HashOK M st rs) {c : Nat} (hk : 0 < M.length % 64) (hc : M.length % 64 + c = 64) (hcp : c ≤ P.length) : st = cmp (M ++ P) (M.length / 64) ∧ ∀ j, j < 64 → (splice rs (M.length % 64) (P.take c)).getD j 0 = (blk (M ++ P) (M.length / 64)).getD j 0 := by
 obtain ⟨h1, h2, h3⟩ := h
 have hl : (P.take c).length = c := by simp; omega
 refine ⟨by rw [cmp_app _ _ _ (by omega)]; exact h1, fun j hj => ?_⟩
 rw [blk_get _ _ _ hj, splice_get (by omega), hl]
 by_cases h4 : j < M.length % 64
 ·rw [if_pos h4, h3 j h4, app_get1 _ _ _ (by omega)]
 ·rw [if_neg h4, if_pos (by omega), app_get2 _ _ _ (by omega), take_get _ _ _ (by omega)]
  congr 1; omega
theorem blk_drop {M P : List Int} {q j : Nat} (hq : (M.length + q) % 64 = 0) (hj : j < 64) : (P.drop q).getD j 0 = (blk (M ++ P) ((M.length + q) / 64)).getD j 0 := by
 rw [blk_get _ _ _ hj, drop_get, app_get2 _ _ _ (by omega)]; congr 1; omega
theorem hash_end {M P rs : List Int} {q : Nat} (hq : (M.length + q) % 64 = 0) (hqm : q ≤ P.length) (hl : P.length - q < 64) (hr : rs.length = 64) : HashOK (M ++ P) (cmp (M ++ P) ((M.length + q) / 64)) (splice rs 0 (P.drop q)) := by
 have hd : (M ++ P).length / 64 = (M.length + q) / 64 := by simp; omega
 have hl2 : (P.drop q).length = P.length - q := by simp
 refine ⟨by rw [hd], by rw [splice_len (by omega)]; exact hr, fun j hj => ?_⟩
 have hj2 : j < P.length - q := by simp at hj; omega
 rw [hd, splice_get (by omega), if_neg (by omega), if_pos (by omega), Nat.sub_zero, drop_get, app_get2 _ _ _ (by omega)]
 congr 1; omega
attribute [irreducible] cmp splice HashOK
theorem rowI_row {w : World} {b off n : Nat} {kd : IntKind} {B : List Int} (hn : B.length = n) (h : RowI w b off n kd B) (j : Nat) (u : Value) (hu : (B.map (int kd))[j]? = some u) : w.cell? ⟨b, off + j, none⟩ = some u := by
 simp only [List.getElem?_map] at hu
 by_cases hj : j < B.length
 ·rw [h j (by omega)]; simpa [hj] using hu
 ·simp [hj] at hu
theorem new_c (w : World) (h0 : 0 < w.heap.size) (hIV : RowI w 0 0 8 .u32 IV) : Calls Tryz.prog 65 #[] w fun e w' => ∃ g, e = .returned (.pointer (some ⟨g, 0, none⟩)) ∧ w.heap.size ≤ g ∧ St w [⟨g, 141, IV.map (int .u32) ++ ((List.replicate 64 0).map (int .u8) ++ ([int .i64 0])), 73⟩] w' := by
 refine qM (args := []) Tryz.func65 rfl Tryz.ntmps65 (by simp) ?_
 refine qC [] ?_
 iterate 7 refine gx ?_
 refine qB (qA rfl) rfl (qj rfl agg137 size137 rfl (vs := IV.map (int .u32)) rfl (Row.old (rowI_row rfl hIV) h0 qE)) ?_
 refine qB (qA rfl) rfl (qq rfl (vs := [(0, .agg (IV.map (int .u32)).toArray)]) rfl (fun w => by kernel_rfl) (v := .agg (IV.map (int .u32) ++ ((List.replicate 64 0).map (int .u8) ++ ([int .i64 0]))).toArray)) ?_
 refine qr (qA rfl) rfl rfl rfl (cs := IV.map (int .u32) ++ ((List.replicate 64 0).map (int .u8) ++ ([int .i64 0]))) (by simp [Value.cells]) (tot := 73) (by simp [IV_len]) (fun g1 hg1 => ?_)
 iterate 4 refine gx ?_
 exact qJ rfl rfl (fun w hs => ⟨g1, rfl, hg1, hs⟩)
/-
 Contract of package sha: take.
-/
theorem agg3 : (isAgg 3).run Tryz.prog = fun w => .ok false w := isAgg_no Tryz.underlying3 rfl
theorem enters113 : Enters Tryz.prog 113 := ⟨_, Tryz.func113, by kernel_rfl, by kernel_rfl⟩
theorem size139 : (Tryz.prog.info? 139).map (·.size) = some 64 := by kernel_rfl
theorem size3 : (Tryz.prog.info? 3).map (·.size) = some 1 := by kernel_rfl
instance : Fld Tryz.prog 141 1 8 := ⟨⟨_, _, _, Tryz.underlying141, rfl, size139, rfl⟩⟩
instance : Fld Tryz.prog 141 2 72 := ⟨⟨_, _, _, Tryz.underlying141, rfl, size3, rfl⟩⟩
instance : Sli Tryz.prog 22 5 := ⟨Tryz.underlying22⟩
structure TI where
 q : Nat
 A : Option Addr
 c : Nat
theorem splice_is {A T : List Value} {rs P : List Int} {o q f : Nat} (hf : f = 8 + o) (ha : A.length = 8) (hq : q ≤ P.length) (ho : o + q ≤ rs.length) :
  (A ++ (rs.map (int .u8) ++ T)).take f ++ (P.take q).map (int .u8) ++ (A ++ (rs.map (int .u8) ++ T)).drop (f + q) = A ++ ((splice rs o (P.take q)).map (int .u8) ++ T) := by
 subst hf
 have hl : (P.take q).length = q := by simp; omega
 rw [splice_mid ha ho]
 unfold splice
 rw [hl]
theorem splice_lenq {rs P : List Int} {o q : Nat} (h : rs.length = 64) (hq : q ≤ P.length) (ho : o + q ≤ 64) : (splice rs o (P.take q)).length = 64 := by
 have hl : (P.take q).length = q := by simp; omega
 rw [splice_len (by omega), h]
theorem take_short {M P st rs : List Int} {n m o q : Nat} (hk : HashOK M st rs) (hM : M.length = n) (ho : o = n % 64) (hq : q = min m (64 - o)) (hm : P.length = m) (hlt : (o : Int) + q < 64) : HashOK (M ++ P) st (splice rs o (P.take q)) := by
 subst hM
 have hqm : q = m := by omega
 rw [List.take_of_length_le (by omega), ho]
 exact hash_short hk (by omega)
theorem take_full {M P st rs : List Int} {n m o q : Nat} (hk : HashOK M st rs) (hM : M.length = n) (ho : o = n % 64) (hq : q = min m (64 - o)) (hm : P.length = m) (h0 : (0 : Int) < o) (hlt : ¬ (o : Int) + q < 64) :
  mixS st (blk (M ++ P) (n / 64)) = cmp (M ++ P) ((n + q) / 64) ∧ ∀ j, j < 64 → (splice rs o (P.take q)).getD j 0 = (blk (M ++ P) (n / 64)).getD j 0 := by
 subst hM
 obtain ⟨h1, h2⟩ := hash_full (P := P) (c := q) hk (by omega) (by omega) (by omega)
 refine ⟨?_, by rw [ho]; exact h2⟩
 have : (M.length + q) / 64 = M.length / 64 + 1 := by omega
 rw [this, h1, cmp_succ]
theorem take_round {M P : List Int} {n k : Nat} : mixS (cmp (M ++ P) ((n + k) / 64)) (blk (M ++ P) ((n + k) / 64)) = cmp (M ++ P) ((n + (k + 64)) / 64) := by
 have : (n + (k + 64)) / 64 = (n + k) / 64 + 1 := by omega
 rw [this, cmp_succ]
theorem take_end {M P rs : List Int} {n m k : Nat} (hM : M.length = n) (hm : P.length = m) (hC1 : (n + k) % 64 = 0) (hC2 : k ≤ m) (hlt : ¬ (64 : Int) ≤ ((m - k : Nat) : Int)) (hr : rs.length = 64) : HashOK (M ++ P) (cmp (M ++ P) ((n + k) / 64)) (splice rs 0 ((P.drop k).take (m - k))) := by
 subst hM; subst hm
 rw [List.take_of_length_le (by simp)]
 exact hash_end hC1 hC2 (by omega) hr
theorem hash_st {M P st rs : List Int} {n : Nat} (hk : HashOK M st rs) (hM : M.length = n) : st = cmp (M ++ P) ((n + 0) / 64) := by
 subst hM; rw [Nat.add_zero, cmp_app _ _ _ (by omega)]
 unfold HashOK at hk; exact hk.1
theorem ne_of_ne {w : World} {e : Ent} {g : Nat} (hg : e.g = g) : ∀ b, b < w.heap.size → b ≠ g → ∀ d ∈ [e], d.g ≠ b := by
 intro b _ hne d hd
 simp only [List.mem_singleton] at hd
 subst hd
 rw [hg]; exact fun h => hne h.symm
theorem next_src {w : World} {g m k d : Nat} {A : Option Addr} {P : List Int} (h : SrcN w g A (m - k) .u8 (P.drop k)) (h1 : 64 ≤ m - k) (h2 : m - k ≤ d) : SrcN w g (cutA A d 64 1) (m - (k + 64)) .u8 (P.drop (k + 64)) := by
 have := h.drop (l := 64) h1 h2
 rw [List.drop_drop] at this
 rwa [show m - k - 64 = m - (k + 64) by omega] at this
theorem fst_src {w : World} {g m c q : Nat} {A : Option Addr} {P : List Int} (h : SrcN w g A m .u8 P) (h1 : q ≤ m) (h2 : m ≤ c) : SrcN w g (cutA A c q 1) (m - q) .u8 (P.drop q) := h.drop h1 h2
theorem take_c (M P st rs : List Int) (n g : Nat) (A : Option Addr) (m c : Nat) (w : World) (hk : HashOK M st rs) (hM : M.length = n) (hst : st.length = 8) (hrs : rs.length = 64) (hl : Ent.lies ⟨g, 141, st.map (int .u32) ++ (rs.map (int .u8) ++ ([int .i64 (n : Int)])), 73⟩ w) (hsrc : SrcN w g A m .u8 P) (hmc : m ≤ c) (hn : n + m ≤ 4611686018427387903) (hb1 : 2 < w.heap.size) (hg1 : g ≠ 2) (hK : RowI w 2 0 64 .u32 KT) : Calls Tryz.prog 94 #[.pointer (some ⟨g, 0, none⟩), .slice A m c] w fun e w' => e = .returned (.tuple #[]) ∧ ∃ st' rs', HashOK (M ++ P) st' rs' ∧ St w [⟨g, 141, (st').map (int .u32) ++ ((rs').map (int .u8) ++ ([int .i64 ((n : Int) + (m : Int))])), 73⟩] w' := by
 have hg : g < w.heap.size := hl.lt
 obtain ⟨o, ho⟩ : ∃ o, o = n % 64 := ⟨_, rfl⟩
 refine qM (args := [.pointer (some ⟨g, 0, none⟩), .slice A m c]) Tryz.func94 rfl Tryz.ntmps94 (by simp) ?_
 refine qC [0, 1] ?_
 refine TC.heap (H' := [⟨g, 141, st.map (int .u32) ++ (rs.map (int .u8) ++ ([int .i64 (n : Int)])), 73⟩]) (fun w hs => hs.take hl qE) ?_
 iterate 3 refine gx ?_
 refine qB (qA rfl) rfl (qf rfl rfl) ?_
 refine gx ?_
 refine qB (qA rfl) rfl (qN rfl agg3 rfl (qU (i := 0) (ent := ⟨g, 141, st.map (int .u32) ++ (rs.map (int .u8) ++ ([int .i64 (n : Int)])), 73⟩) (off := 72) rfl rfl (by exact app_right (a := 8) (i := 64) (ints_len hst) (app_right (a := 64) (i := 0) (ints_len hrs) (rfl))))) ?_
 refine qB (qA rfl) rfl (Gets.rem rfl rfl rfl (by omega) (r := (o : Int)) (tmod_pos (by omega) (by omega))) ?_
 iterate 6 refine gx ?_
 refine qB (qA rfl) rfl (qf rfl rfl) ?_
 refine gx ?_
 refine qB (qA rfl) rfl (qN rfl agg3 rfl (qU (i := 0) (ent := ⟨g, 141, st.map (int .u32) ++ (rs.map (int .u8) ++ ([int .i64 (n : Int)])), 73⟩) (off := 72) rfl rfl (by exact app_right (a := 8) (i := 64) (ints_len hst) (app_right (a := 64) (i := 0) (ints_len hrs) (rfl))))) ?_
 iterate 2 refine gx ?_
 refine qB (qA rfl) rfl (qQ rfl rfl rfl (r := ((n : Int) + (m : Int))) (w64 (by omega) (by omega))) ?_
 refine qB (qA rfl) rfl (qf rfl rfl) ?_
 refine gx ?_
 refine qv (qA rfl) rfl rfl size3 rfl rfl rfl (i := 0) rfl rfl (by simp [hst, hrs] <;> omega) (cs' := st.map (int .u32) ++ (rs.map (int .u8) ++ ([int .i64 ((n : Int) + (m : Int))]))) (set_right (a := 8) (i := 64) (ints_len hst) (set_right (a := 64) (i := 0) (ints_len hrs) (rfl))) (H' := [⟨g, 141, st.map (int .u32) ++ (rs.map (int .u8) ++ ([int .i64 ((n : Int) + (m : Int))])), 73⟩]) rfl ?_
 iterate 2 refine gx ?_
 refine qC [0, 1, 4] ?_
 iterate 7 refine gx ?_
 refine qP rfl (fun h0 => ?_) (fun h0 => ?_)
 ·iterate 3 refine gx ?_
  refine qB (qA rfl) rfl (qf rfl rfl) ?_
  iterate 2 refine gx ?_
  refine qB (qA rfl) rfl (Gets.sliceA rfl Tryz.underlying139 size5 rfl (bnd.at_ (l := o) rfl (by omega)) bnd.dflt (by omega) (by omega) (A' := some ⟨g, (o + 8), none⟩) (cut_is (by omega) (by omega)) (ln := (64 - o)) (cp := (64 - o)) (by omega) (by omega)) ?_
  refine gx ?_
  obtain ⟨q, hq⟩ : ∃ q, q = min m (64 - o) := ⟨_, rfl⟩
  have hr1 : (splice rs o (P.take q)).length = 64 := splice_lenq hrs (by have := hsrc.1; omega) (by omega)
  refine TL.copy (qA rfl) rfl rfl Tryz.underlying22 size5 rfl rfl (i := 0) (ent := ⟨g, 141, st.map (int .u32) ++ (rs.map (int .u8) ++ ([int .i64 ((n : Int) + (m : Int))])), 73⟩) rfl rfl (by simp [hst, hrs] <;> omega) (kd := .u8) (B := P) (fun w hs => (hsrc.src hs (ne_of_ne rfl))) (c := q) (by omega) (cs' := st.map (int .u32) ++ ((splice rs o (P.take q)).map (int .u8) ++ ([int .i64 ((n : Int) + (m : Int))]))) (splice_is (rs := rs) (P := P) (o := o) (q := q) (by omega) (ints_len hst) (by have := hsrc.1; omega) (by rw [hrs]; omega)) (H' := [⟨g, 141, st.map (int .u32) ++ ((splice rs o (P.take q)).map (int .u8) ++ ([int .i64 ((n : Int) + (m : Int))])), 73⟩]) rfl ?_
  iterate 3 refine gx ?_
  refine qC [0, 1, 4, 5] ?_
  iterate 5 refine gx ?_
  refine qB (qA rfl) rfl (qQ rfl rfl rfl (r := ((o : Int) + (q : Int))) (w64 (by omega) (by omega))) ?_
  iterate 3 refine gx ?_
  refine qP rfl (fun h1 => ?_) (fun h1 => ?_)
  ·iterate 3 refine gx ?_
   exact TE.ret0 rfl (fun w hs => ⟨rfl, _, _, take_short hk hM ho hq hsrc.1 h1, hs⟩)
  ·iterate 3 refine gx ?_
   refine TC.draw (by kernel_rfl) ?_
   refine TF.seqL 7 (by kernel_rfl) ?_
   refine TS.gets (qA rfl) rfl (qu rfl rfl) ?_
   refine TS.gets (qA rfl) rfl (qf rfl rfl) ?_
   refine TS.gets (qA rfl) rfl (zI rfl Tryz.underlying141 rfl size138 rfl (off' := 0) (by first | rfl | omega)) ?_
   refine TS.gets (qA rfl) rfl (qu rfl rfl) ?_
   refine TS.gets (qA rfl) rfl (qf rfl rfl) ?_
   refine TS.gets (qA rfl) rfl (zI rfl Tryz.underlying141 rfl size139 rfl (off' := 8) (by first | rfl | omega)) ?_
   refine TS.gets (qA rfl) rfl (Gets.sliceA rfl Tryz.underlying139 size5 rfl bnd.dflt bnd.dflt (by omega) (by omega) (cutA_zero _ _ _) (ln := 64) (cp := 64) (by omega) (by omega)) ?_
   refine TS.done ?_
   refine TF.tailL (by kernel_rfl) ?_
   have hfull := take_full hk hM ho hq hsrc.1 h0 h1
   refine qt (ι := Unit) (V := fun _ => .tuple #[]) (R := fun _ => True) (H' := fun _ => [⟨g, 141, (cmp (M ++ P) ((n + q) / 64)).map (int .u32) ++ ((splice rs o (P.take q)).map (int .u8) ++ ([int .i64 ((n : Int) + (m : Int))])), 73⟩]) (qA rfl) rfl enters113 rfl rfl (fun w hs => (mix_c st (blk (M ++ P) (n / 64)) ((splice rs o (P.take q)).map (int .u8) ++ ([int .i64 ((n : Int) + (m : Int))])) g 141 73 g 8 64 w hst (hs.has (⟨g, 141, st.map (int .u32) ++ ((splice rs o (P.take q)).map (int .u8) ++ ([int .i64 ((n : Int) + (m : Int))])), 73⟩) (List.mem_singleton.2 rfl)) (hs.has (⟨g, 141, st.map (int .u32) ++ ((splice rs o (P.take q)).map (int .u8) ++ ([int .i64 ((n : Int) + (m : Int))])), 73⟩) (List.mem_singleton.2 rfl)).lt (fun j hj => by rw [← hfull.2 j hj]; exact (hs.has (⟨g, 141, st.map (int .u32) ++ ((splice rs o (P.take q)).map (int .u8) ++ ([int .i64 ((n : Int) + (m : Int))])), 73⟩) (List.mem_singleton.2 rfl)).cell (app_right (a := 8) (ints_len hst) (app_left (qn (kd := .u8) (by rw [hr1]; omega))))) (by omega) (Nat.lt_of_lt_of_le hb1 hs.size) hg1 (hK.keepH hs hb1 (qD (by show g ≠ 2; exact hg1) qE))).mono fun e w' ⟨he, hw⟩ => ⟨(), he, trivial, by rw [hfull.1] at hw; exact hs.turn (i := 0) rfl rfl hw⟩) (fun _ _ => ?_)
   iterate 2 refine gx ?_
   refine qC [0, 1, 5] ?_
   iterate 3 refine gx ?_
   refine qB (qA rfl) rfl (zF rfl Tryz.underlying22 size5 rfl (bnd.at_ (l := q) rfl (by omega)) bnd.dflt (by omega) (by omega) rfl (ln := (m - q)) (cp := (c - q)) (by omega) (by omega)) ?_
   iterate 5 refine gx ?_
   refine qp (ι := TI) (fun x => [(0, .pointer (some ⟨g, 0, none⟩)), (1, .slice x.A (m - x.q) x.c)]) (fun x => [⟨g, 141, (cmp (M ++ P) ((n + x.q) / 64)).map (int .u32) ++ ((splice rs o (P.take q)).map (int .u8) ++ ([int .i64 ((n : Int) + (m : Int))])), 73⟩]) (fun x => m - x.q) (fun x => (n + x.q) % 64 = 0 ∧ x.q ≤ m ∧ SrcN w g x.A (m - x.q) .u8 (P.drop x.q) ∧ m - x.q ≤ x.c) (⟨q, cutA A c q 1, c - q⟩ : TI) ⟨by show (n + q) % 64 = 0; omega, by show q ≤ m; omega, fst_src hsrc (by omega) hmc, by show m - q ≤ c - q; omega⟩ (qK (i := 0) rfl (qT (i := 1) rfl (by first | rfl | (congr 2; omega)) (by first | omega | (dsimp only; omega) | rfl) (by first | omega | (dsimp only; omega) | rfl) (qO))) (fun w h => h) (fun x hC0 => ?_)
   obtain ⟨k, E, d⟩ := x
   obtain ⟨hC1, hC2, hC3, hC4⟩ := hC0
   dsimp only at hC1 hC2 hC3 hC4 ⊢
   iterate 8 refine gx ?_
   refine qP rfl (fun h2 => ?_) (fun h2 => ?_)
   ·obtain ⟨b, off, hE, hb, hbg, hrow⟩ := hC3.2.resolve_left (by omega)
    subst hE
    iterate 4 refine gx ?_
    refine TC.draw (by kernel_rfl) ?_
    refine TF.seqL 5 (by kernel_rfl) ?_
    refine TS.gets (qA rfl) rfl (qu rfl rfl) ?_
    refine TS.gets (qA rfl) rfl (qf rfl rfl) ?_
    refine TS.gets (qA rfl) rfl (zI rfl Tryz.underlying141 rfl size138 rfl (off' := 0) (by first | rfl | omega)) ?_
    refine TS.gets (qA rfl) rfl (qu rfl rfl) ?_
    refine TS.gets (qA rfl) rfl (zF rfl Tryz.underlying22 size5 rfl bnd.dflt (bnd.at_ (l := 64) rfl rfl) (by omega) (by omega) (cutA_zero _ _ _) (ln := 64) (cp := d) (by omega) (by omega)) ?_
    refine TS.done ?_
    refine TF.tailL (by kernel_rfl) ?_
    refine qt (ι := Unit) (V := fun _ => .tuple #[]) (R := fun _ => True) (H' := fun _ => [⟨g, 141, (cmp (M ++ P) ((n + (k + 64)) / 64)).map (int .u32) ++ ((splice rs o (P.take q)).map (int .u8) ++ ([int .i64 ((n : Int) + (m : Int))])), 73⟩]) (qA rfl) rfl enters113 rfl rfl (fun w hs => (mix_c (cmp (M ++ P) ((n + k) / 64)) (blk (M ++ P) ((n + k) / 64)) ((splice rs o (P.take q)).map (int .u8) ++ ([int .i64 ((n : Int) + (m : Int))])) g 141 73 b off d w (cmp_len _ _) (hs.has (⟨g, 141, (cmp (M ++ P) ((n + k) / 64)).map (int .u32) ++ ((splice rs o (P.take q)).map (int .u8) ++ ([int .i64 ((n : Int) + (m : Int))])), 73⟩) (List.mem_singleton.2 rfl)) (Nat.lt_of_lt_of_le hb hs.size) (fun j hj => ((hs.old_cell (ad := ⟨b, off + j, none⟩) hb (ne_of_ne rfl b hb hbg)).trans (hrow j (by omega))).trans (by rw [blk_drop (M := M) (P := P) (q := k) (by omega) hj]; simp only [hM])) (by omega) (Nat.lt_of_lt_of_le hb1 hs.size) hg1 (hK.keepH hs hb1 (qD (by show g ≠ 2; exact hg1) qE))).mono fun e w' ⟨he, hw⟩ => ⟨(), he, trivial, by rw [take_round] at hw; exact hs.turn (i := 0) rfl rfl hw⟩) (fun _ _ => ?_)
    iterate 2 refine gx ?_
    refine qC [0, 1] ?_
    iterate 2 refine gx ?_
    refine qB (qA rfl) rfl (zF rfl Tryz.underlying22 size5 rfl (bnd.at_ (l := 64) rfl rfl) bnd.dflt (by omega) (by omega) rfl (ln := (m - k - 64)) (cp := (d - 64)) (by omega) (by omega)) ?_
    iterate 3 refine gx ?_
    exact qd (⟨k + 64, cutA (some ⟨b, off, none⟩) d 64 1, d - 64⟩ : TI) (by show m - (k + 64) < m - k; omega) ⟨by show (n + (k + 64)) % 64 = 0; omega, by show k + 64 ≤ m; omega, next_src hC3 (by omega) (by omega), by show m - (k + 64) ≤ d - 64; omega⟩ (qK (i := 0) rfl (qT (i := 1) rfl (by first | rfl | (congr 2; omega)) (by first | omega | (dsimp only; omega) | rfl) (by first | omega | (dsimp only; omega) | rfl) (qO))) (fun w h => h)
   ·iterate 7 refine gx ?_
    refine qB (qA rfl) rfl (qf rfl rfl) ?_
    refine gx ?_
    refine qB (qA rfl) rfl (Gets.sliceA rfl Tryz.underlying139 size5 rfl bnd.dflt bnd.dflt (by omega) (by omega) (cutA_zero _ _ _) (ln := 64) (cp := 64) (by omega) (by omega)) ?_
    refine gx ?_
    have hr2 : (splice (splice rs o (P.take q)) 0 ((P.drop k).take (m - k))).length = 64 := splice_lenq hr1 (by simp [hsrc.1]) (by omega)
    refine TL.copy (qA rfl) rfl rfl Tryz.underlying22 size5 rfl rfl (i := 0) (ent := ⟨g, 141, (cmp (M ++ P) ((n + k) / 64)).map (int .u32) ++ ((splice rs o (P.take q)).map (int .u8) ++ ([int .i64 ((n : Int) + (m : Int))])), 73⟩) rfl rfl (by simp [(cmp_len _ _), hr1] <;> omega) (kd := .u8) (B := (P.drop k)) (fun w hs => (hC3.src hs (ne_of_ne rfl))) (c := (m - k)) (by omega) (cs' := (cmp (M ++ P) ((n + k) / 64)).map (int .u32) ++ ((splice (splice rs o (P.take q)) 0 ((P.drop k).take (m - k))).map (int .u8) ++ ([int .i64 ((n : Int) + (m : Int))]))) (splice_is (rs := (splice rs o (P.take q))) (P := (P.drop k)) (o := 0) (q := (m - k)) (by omega) (ints_len (cmp_len _ _)) (by simp [hsrc.1]) (by rw [hr1]; omega)) (H' := [⟨g, 141, (cmp (M ++ P) ((n + k) / 64)).map (int .u32) ++ ((splice (splice rs o (P.take q)) 0 ((P.drop k).take (m - k))).map (int .u8) ++ ([int .i64 ((n : Int) + (m : Int))])), 73⟩]) rfl ?_
    refine gx ?_
    exact TE.end0 rfl (fun w hs => ⟨rfl, _, _, take_end hM hsrc.1 hC1 hC2 (by assumption) hr1, hs⟩)
 ·iterate 4 refine gx ?_
  refine qp (ι := TI) (fun x => [(0, .pointer (some ⟨g, 0, none⟩)), (1, .slice x.A (m - x.q) x.c)]) (fun x => [⟨g, 141, (cmp (M ++ P) ((n + x.q) / 64)).map (int .u32) ++ (rs.map (int .u8) ++ ([int .i64 ((n : Int) + (m : Int))])), 73⟩]) (fun x => m - x.q) (fun x => (n + x.q) % 64 = 0 ∧ x.q ≤ m ∧ SrcN w g x.A (m - x.q) .u8 (P.drop x.q) ∧ m - x.q ≤ x.c) (⟨0, A, c⟩ : TI) ⟨by show (n + 0) % 64 = 0; omega, by show 0 ≤ m; omega, by show SrcN w g A (m - 0) .u8 (P.drop 0); simpa using hsrc, by show m - 0 ≤ c; omega⟩ (qK (i := 0) rfl (qT (i := 1) rfl (by first | rfl | (congr 2; omega)) (by first | omega | (dsimp only; omega) | rfl) (by first | omega | (dsimp only; omega) | rfl) (qO))) (fun w h => by show St _ [⟨g, _, List.map _ (cmp (M ++ P) ((n + 0) / 64)) ++ _, _⟩] w; rw [← hash_st hk hM]; exact h) (fun x hC1 => ?_)
  obtain ⟨k, E, d⟩ := x
  obtain ⟨hC1, hC2, hC3, hC4⟩ := hC1
  dsimp only at hC1 hC2 hC3 hC4 ⊢
  iterate 8 refine gx ?_
  refine qP rfl (fun h3 => ?_) (fun h3 => ?_)
  ·obtain ⟨b, off, hE, hb, hbg, hrow⟩ := hC3.2.resolve_left (by omega)
   subst hE
   iterate 4 refine gx ?_
   refine TC.draw (by kernel_rfl) ?_
   refine TF.seqL 5 (by kernel_rfl) ?_
   refine TS.gets (qA rfl) rfl (qu rfl rfl) ?_
   refine TS.gets (qA rfl) rfl (qf rfl rfl) ?_
   refine TS.gets (qA rfl) rfl (zI rfl Tryz.underlying141 rfl size138 rfl (off' := 0) (by first | rfl | omega)) ?_
   refine TS.gets (qA rfl) rfl (qu rfl rfl) ?_
   refine TS.gets (qA rfl) rfl (zF rfl Tryz.underlying22 size5 rfl bnd.dflt (bnd.at_ (l := 64) rfl rfl) (by omega) (by omega) (cutA_zero _ _ _) (ln := 64) (cp := d) (by omega) (by omega)) ?_
   refine TS.done ?_
   refine TF.tailL (by kernel_rfl) ?_
   refine qt (ι := Unit) (V := fun _ => .tuple #[]) (R := fun _ => True) (H' := fun _ => [⟨g, 141, (cmp (M ++ P) ((n + (k + 64)) / 64)).map (int .u32) ++ (rs.map (int .u8) ++ ([int .i64 ((n : Int) + (m : Int))])), 73⟩]) (qA rfl) rfl enters113 rfl rfl (fun w hs => (mix_c (cmp (M ++ P) ((n + k) / 64)) (blk (M ++ P) ((n + k) / 64)) (rs.map (int .u8) ++ ([int .i64 ((n : Int) + (m : Int))])) g 141 73 b off d w (cmp_len _ _) (hs.has (⟨g, 141, (cmp (M ++ P) ((n + k) / 64)).map (int .u32) ++ (rs.map (int .u8) ++ ([int .i64 ((n : Int) + (m : Int))])), 73⟩) (List.mem_singleton.2 rfl)) (Nat.lt_of_lt_of_le hb hs.size) (fun j hj => ((hs.old_cell (ad := ⟨b, off + j, none⟩) hb (ne_of_ne rfl b hb hbg)).trans (hrow j (by omega))).trans (by rw [blk_drop (M := M) (P := P) (q := k) (by omega) hj]; simp only [hM])) (by omega) (Nat.lt_of_lt_of_le hb1 hs.size) hg1 (hK.keepH hs hb1 (qD (by show g ≠ 2; exact hg1) qE))).mono fun e w' ⟨he, hw⟩ => ⟨(), he, trivial, by rw [take_round] at hw; exact hs.turn (i := 0) rfl rfl hw⟩) (fun _ _ => ?_)
   iterate 2 refine gx ?_
   refine qC [0, 1] ?_
   iterate 2 refine gx ?_
   refine qB (qA rfl) rfl (zF rfl Tryz.underlying22 size5 rfl (bnd.at_ (l := 64) rfl rfl) bnd.dflt (by omega) (by omega) rfl (ln := (m - k - 64)) (cp := (d - 64)) (by omega) (by omega)) ?_
   iterate 3 refine gx ?_
   exact qd (⟨k + 64, cutA (some ⟨b, off, none⟩) d 64 1, d - 64⟩ : TI) (by show m - (k + 64) < m - k; omega) ⟨by show (n + (k + 64)) % 64 = 0; omega, by show k + 64 ≤ m; omega, next_src hC3 (by omega) (by omega), by show m - (k + 64) ≤ d - 64; omega⟩ (qK (i := 0) rfl (qT (i := 1) rfl (by first | rfl | (congr 2; omega)) (by first | omega | (dsimp only; omega) | rfl) (by first | omega | (dsimp only; omega) | rfl) (qO))) (fun w h => h)
  ·iterate 7 refine gx ?_
   refine qB (qA rfl) rfl (qf rfl rfl) ?_
   refine gx ?_
   refine qB (qA rfl) rfl (Gets.sliceA rfl Tryz.underlying139 size5 rfl bnd.dflt bnd.dflt (by omega) (by omega) (cutA_zero _ _ _) (ln := 64) (cp := 64) (by omega) (by omega)) ?_
   refine gx ?_
   have hr3 : (splice rs 0 ((P.drop k).take (m - k))).length = 64 := splice_lenq hrs (by simp [hsrc.1]) (by omega)
   refine TL.copy (qA rfl) rfl rfl Tryz.underlying22 size5 rfl rfl (i := 0) (ent := ⟨g, 141, (cmp (M ++ P) ((n + k) / 64)).map (int .u32) ++ (rs.map (int .u8) ++ ([int .i64 ((n : Int) + (m : Int))])), 73⟩) rfl rfl (by simp [(cmp_len _ _), hrs] <;> omega) (kd := .u8) (B := (P.drop k)) (fun w hs => (hC3.src hs (ne_of_ne rfl))) (c := (m - k)) (by omega) (cs' := (cmp (M ++ P) ((n + k) / 64)).map (int .u32) ++ ((splice rs 0 ((P.drop k).take (m - k))).map (int .u8) ++ ([int .i64 ((n : Int) + (m : Int))]))) (splice_is (rs := rs) (P := (P.drop k)) (o := 0) (q := (m - k)) (by omega) (ints_len (cmp_len _ _)) (by simp [hsrc.1]) (by rw [hrs]; omega)) (H' := [⟨g, 141, (cmp (M ++ P) ((n + k) / 64)).map (int .u32) ++ ((splice rs 0 ((P.drop k).take (m - k))).map (int .u8) ++ ([int .i64 ((n : Int) + (m : Int))])), 73⟩]) rfl ?_
   refine gx ?_
   exact TE.end0 rfl (fun w hs => ⟨rfl, _, _, take_end hM hsrc.1 hC1 hC2 (by assumption) hrs, hs⟩)
/-
 Contract of package sha: Write.
-/
theorem agg22 : (isAgg 22).run Tryz.prog = fun w => .ok false w := isAgg_no Tryz.underlying22 rfl
theorem enters94 : Enters Tryz.prog 94 := ⟨_, Tryz.func94, by kernel_rfl, by kernel_rfl⟩
theorem size22 : (Tryz.prog.info? 22).map (·.size) = some 1 := by kernel_rfl
instance : Sli Tryz.prog 65 22 := ⟨Tryz.underlying65⟩
theorem take_m (M P st rs : List Int) (g : Nat) (A : Option Addr) (m c : Nat) (w : World) (hk : HashOK M st rs) (hl : Ent.lies ⟨g, 141, st.map (int .u32) ++ (rs.map (int .u8) ++ ([int .i64 M.length])), 73⟩ w) (hsrc : SrcN w g A m .u8 P) (hmc : m ≤ c) (hn : M.length + m ≤ 4611686018427387903) (hb1 : 2 < w.heap.size) (hg1 : g ≠ 2) (hK : RowI w 2 0 64 .u32 KT) :
  Calls Tryz.prog 94 #[.pointer (some ⟨g, 0, none⟩), .slice A m c] w fun e w' => e = .returned (.tuple #[]) ∧ ∃ st' rs', HashOK (M ++ P) st' rs' ∧ St w [⟨g, 141, (st').map (int .u32) ++ ((rs').map (int .u8) ++ ([int .i64 ((M ++ P).length)])), 73⟩] w' :=
 (take_c M P st rs M.length g A m c w hk rfl hk.len hk.rlen hl hsrc hmc hn hb1 hg1 hK).mono fun e w' ⟨he, st', rs', h1, h2⟩ => ⟨he, st', rs', h1, by
  have : (((M ++ P).length : Nat) : Int) = (M.length : Int) + (m : Int) := by simp [hsrc.1]
  rw [this]; exact h2⟩
theorem SrcN.keep {w w' : World} {H : List Ent} {g m : Nat} {A : Option Addr} {kd : IntKind} {B : List Int} (h : SrcN w g A m kd B) (hs : St w H w') (hH : ∀ b, b < w.heap.size → b ≠ g → ∀ e ∈ H, e.g ≠ b) : SrcN w' g A m kd B := by
 obtain ⟨h1, h2⟩ := h
 refine ⟨h1, ?_⟩
 rcases h2 with h2 | ⟨b, off, hA, hb, hne, hr⟩
 ·exact .inl h2
 ·exact .inr ⟨b, off, hA, Nat.lt_of_lt_of_le hb hs.size, hne, fun j hj => (hs.old_cell (ad := ⟨b, off + j, none⟩) hb (hH b hb hne)).trans (hr j hj)⟩
def PartsN (w : World) (g : Nat) (A : Option Addr) (m : Nat) (Ps : List (List Int)) : Prop :=
 Ps.length = m ∧ (m = 0 ∨ ∃ b off, A = some ⟨b, off, none⟩ ∧ b < w.heap.size ∧ b ≠ g ∧ ∀ i, i < m → ∃ Ai mi ci, w.cell? ⟨b, off + i, none⟩ = some (.slice Ai mi ci) ∧ SrcN w g Ai mi .u8 (Ps.getD i []) ∧ mi ≤ ci)
theorem flat_le {Ps : List (List Int)} {i : Nat} (h : i < Ps.length) : (Ps.take i).flatten.length + (Ps.getD i []).length ≤ Ps.flatten.length := by
 have h1 := flat_succ h []
 simp only [List.nil_append] at h1
 have h2 : (Ps.take (i + 1)).flatten.length + (Ps.drop (i + 1)).flatten.length = Ps.flatten.length := by rw [← List.length_append, ← List.flatten_append, List.take_append_drop]
 rw [h1, List.length_append] at h2
 omega
structure WI where
 i : Nat
 st : List Int
 rs : List Int
theorem write_end {w0 w : World} {M st rs : List Int} {Ps : List (List Int)} {g m t tot : Nat} {A : Option Addr} (hP : PartsN w0 g A m Ps) (hk : HashOK (M ++ (Ps.take m).flatten) st rs) (hs : St w0 [⟨g, t, st.map (int .u32) ++ (rs.map (int .u8) ++ [int .i64 ((M ++ (Ps.take m).flatten).length : Int)]), tot⟩] w) :
  Ending.returned (.int .i64 (((M ++ (Ps.take m).flatten).length : Int) - (M.length : Int))) = .returned (.int .i64 (Ps.flatten.length : Int)) ∧ ∃ st' rs', HashOK (M ++ Ps.flatten) st' rs' ∧ St w0 [⟨g, t, st'.map (int .u32) ++ (rs'.map (int .u8) ++ [int .i64 ((M ++ Ps.flatten).length : Int)]), tot⟩] w := by
 have : Ps.take m = Ps := List.take_of_length_le (by have := hP.1; omega)
 rw [this] at hk hs ⊢
 refine ⟨?_, st, rs, hk, hs⟩
 congr 2
 simp only [List.length_append]
 omega
theorem write_c (M st rs : List Int) (Ps : List (List Int)) (g : Nat) (A : Option Addr) (m c : Nat) (w : World) (hk : HashOK M st rs) (hst : st.length = 8) (hrs : rs.length = 64) (hl : Ent.lies ⟨g, 141, st.map (int .u32) ++ (rs.map (int .u8) ++ ([int .i64 (M.length : Int)])), 73⟩ w) (hP : PartsN w g A m Ps) (hmc : m ≤ c) (hcm : c ≤ 9223372036854775807) (hn : M.length + Ps.flatten.length ≤ 4611686018427387903) (hb1 : 2 < w.heap.size) (hg1 : g ≠ 2) (hK : RowI w 2 0 64 .u32 KT) : Calls Tryz.prog 66 #[.pointer (some ⟨g, 0, none⟩), .slice A m c] w fun e w' => e = .returned (.int .i64 (Ps.flatten.length : Int)) ∧ ∃ st' rs', HashOK (M ++ Ps.flatten) st' rs' ∧ St w [⟨g, 141, (st').map (int .u32) ++ ((rs').map (int .u8) ++ ([int .i64 ((M ++ Ps.flatten).length : Int)])), 73⟩] w' := by
 have hg : g < w.heap.size := hl.lt
 refine qM (args := [.pointer (some ⟨g, 0, none⟩), .slice A m c]) Tryz.func66 rfl Tryz.ntmps66 (by simp) ?_
 refine qC [0, 1] ?_
 refine TC.heap (H' := [⟨g, 141, st.map (int .u32) ++ (rs.map (int .u8) ++ ([int .i64 (M.length : Int)])), 73⟩]) (fun w hs => hs.take hl qE) ?_
 iterate 9 refine gx ?_
 refine qB (qA rfl) rfl (Gets.ptrNil rfl Tryz.underlying103 rfl rfl) ?_
 iterate 2 refine gx ?_
 refine qV rfl ?_
 iterate 5 refine gx ?_
 refine qB (qA rfl) rfl (qf rfl rfl) ?_
 refine gx ?_
 refine qB (qA rfl) rfl (qN rfl agg3 rfl (qU (i := 0) (ent := ⟨g, 141, st.map (int .u32) ++ (rs.map (int .u8) ++ ([int .i64 (M.length : Int)])), 73⟩) (off := 72) rfl rfl (by exact app_right (a := 8) (i := 64) (ints_len hst) (app_right (a := 64) (i := 0) (ints_len hrs) (rfl))))) ?_
 iterate 3 refine gx ?_
 refine qC [0, 1, 4, 5] ?_
 iterate 9 refine gx ?_
 refine qp (ι := WI) (fun x => [(0, .pointer (some ⟨g, 0, none⟩)), (5, .int .i64 (M.length : Int)), (14, .slice A m c), (15, .int .i64 (m : Int)), (16, .int .i64 (x.i : Int))]) (fun x => [⟨g, 141, x.st.map (int .u32) ++ (x.rs.map (int .u8) ++ ([int .i64 ((M ++ (Ps.take x.i).flatten).length : Int)])), 73⟩]) (fun x => m - x.i) (fun x => x.i ≤ m ∧ HashOK (M ++ (Ps.take x.i).flatten) x.st x.rs) (⟨0, st, rs⟩ : WI) ⟨Nat.zero_le _, by simpa using hk⟩ (qK (i := 0) rfl (qF (i := 5) rfl (by first | rfl | omega) (qT (i := 14) rfl rfl (by first | omega | (dsimp only; omega) | rfl) (by first | omega | (dsimp only; omega) | rfl) (qF (i := 15) rfl (by first | omega | rfl) (qF (i := 16) rfl (by first | omega | rfl) (qO)))))) (fun w h => by simpa using h) (fun x hC0 => ?_)
 obtain ⟨i, st1, rs1⟩ := x
 obtain ⟨hC1, hC2⟩ := hC0
 dsimp only at hC1 hC2 ⊢
 have hstx := hC2.len
 have hrsx := hC2.rlen
 iterate 6 refine gx ?_
 refine qP rfl (fun h1 => ?_) (fun h1 => ?_)
 ·obtain ⟨b, off, hE, hb, hbg, hcells⟩ := hP.2.resolve_left (by omega)
  subst hE
  obtain ⟨Ai, mi, ci, hci, hSi, hmi⟩ := hcells i (by omega)
  have hoff : off + i = (off + i) := rfl
  iterate 6 refine gx ?_
  refine qB (qA rfl) rfl (qe rfl Tryz.underlying65 size22 rfl rfl (i := i) (by omega) (by omega) (off' := (off + i)) (by omega)) ?_
  refine qB (qA rfl) rfl (qN rfl agg22 rfl (qi (hoff ▸ hci) hb (qD (by show g ≠ b; exact fun h => hbg h.symm) qE))) ?_
  iterate 3 refine gx ?_
  refine qC [0, 5, 7, 14, 15, 16] ?_
  iterate 3 refine gx ?_
  refine qt (ι := List Int × List Int) (V := fun s => .tuple #[]) (R := fun s => HashOK (M ++ (Ps.take i).flatten ++ Ps.getD i []) s.1 s.2) (H' := fun s => [⟨g, 141, s.1.map (int .u32) ++ (s.2.map (int .u8) ++ ([int .i64 ((M ++ (Ps.take i).flatten ++ Ps.getD i []).length : Int)])), 73⟩]) (qA rfl) rfl enters94 rfl rfl (fun w hs => (take_m (M ++ (Ps.take i).flatten) (Ps.getD i []) st1 rs1 g Ai mi ci w hC2 (hs.has (⟨g, 141, st1.map (int .u32) ++ (rs1.map (int .u8) ++ ([int .i64 ((M ++ (Ps.take i).flatten).length : Int)])), 73⟩) (List.mem_singleton.2 rfl)) (hSi.keep hs (ne_of_ne rfl)) hmi (by have := flat_le (i := i) (Ps := Ps) (by have := hP.1; omega); have := hSi.1; simp only [List.length_append]; omega) (Nat.lt_of_lt_of_le hb1 hs.size) hg1 (hK.keepH hs hb1 (qD (by show g ≠ 2; exact hg1) qE))).mono fun e w' ⟨he, st', rs', h1, h2⟩ => ⟨(st', rs'), he, h1, hs.turn (i := 0) rfl rfl h2⟩) (fun s hs2 => ?_)
  iterate 3 refine gx ?_
  refine qC [0, 5, 14, 15, 16] ?_
  refine gx ?_
  refine qB (qA rfl) rfl (qQ rfl rfl rfl (r := ((i : Int) + 1)) (w64 (by omega) (by omega))) ?_
  iterate 2 refine gx ?_
  exact qd (⟨i + 1, s.1, s.2⟩ : WI) (by show m - (i + 1) < m - i; omega) ⟨by show i + 1 ≤ m; omega, by show HashOK (M ++ (Ps.take (i + 1)).flatten) s.1 s.2; rw [flat_succ (by have := hP.1; omega)]; exact hs2⟩ (qK (i := 0) rfl (qF (i := 5) rfl (by first | rfl | omega) (qT (i := 14) rfl (by first | rfl | (congr 2; omega)) (by first | omega | (dsimp only; omega) | rfl) (by first | omega | (dsimp only; omega) | rfl) (qF (i := 15) rfl (by first | omega | rfl) (qF (i := 16) rfl (by first | omega | rfl) (qO)))))) (fun w h => by show St _ [⟨g, _, _ ++ (_ ++ [int .i64 ((M ++ (Ps.take (i + 1)).flatten).length : Int)]), _⟩] w; rw [flat_succ (by have := hP.1; omega)]; exact h)
 ·obtain rfl : m = i := by omega
  have hlen : (M ++ (Ps.take m).flatten).length = M.length + Ps.flatten.length := by rw [List.take_of_length_le (by have := hP.1; omega), List.length_append]
  iterate 8 refine gx ?_
  refine qB (qA rfl) rfl (qf rfl rfl) ?_
  refine gx ?_
  refine qB (qA rfl) rfl (qN rfl agg3 rfl (qU (i := 0) (ent := ⟨g, 141, st1.map (int .u32) ++ (rs1.map (int .u8) ++ ([int .i64 ((M ++ (Ps.take m).flatten).length : Int)])), 73⟩) (off := 72) rfl rfl (by exact app_right (a := 8) (i := 64) (ints_len hstx) (app_right (a := 64) (i := 0) (ints_len hrsx) (rfl))))) ?_
  refine gx ?_
  refine qB (qA rfl) rfl (qy rfl rfl rfl (r := (((M ++ (Ps.take m).flatten).length : Int) - (M.length : Int))) (w64 (by omega) (by omega))) ?_
  iterate 4 refine gx ?_
  exact qJ rfl rfl (fun w hs => write_end hP hC2 hs)
/-
 Contracts of package sha: Sum, Of.
-/
theorem agg141 : (isAgg 141).run Tryz.prog = fun w => .ok true w := isAgg_yes Tryz.underlying141 rfl
theorem enters65 : Enters Tryz.prog 65 := ⟨_, Tryz.func65, by kernel_rfl, by kernel_rfl⟩
theorem enters66 : Enters Tryz.prog 66 := ⟨_, Tryz.func66, by kernel_rfl, by kernel_rfl⟩
theorem enters67 : Enters Tryz.prog 67 := ⟨_, Tryz.func67, by kernel_rfl, by kernel_rfl⟩
theorem enters95 : Enters Tryz.prog 95 := ⟨_, Tryz.func95, by kernel_rfl, by kernel_rfl⟩
theorem enters96 : Enters Tryz.prog 96 := ⟨_, Tryz.func96, by kernel_rfl, by kernel_rfl⟩
theorem size141 : (Tryz.prog.info? 141).map (·.size) = some 73 := by kernel_rfl
theorem zero141 : (Tryz.prog.info? 141).bind (·.zero) = some (.agg #[.int .u32 0, .int .u32 0, .int .u32 0, .int .u32 0, .int .u32 0, .int .u32 0, .int .u32 0, .int .u32 0, .int .u8 0, .int .u8 0, .int .u8 0, .int .u8 0, .int .u8 0, .int .u8 0, .int .u8 0, .int .u8 0, .int .u8 0, .int .u8 0, .int .u8 0, .int .u8 0, .int .u8 0, .int .u8 0, .int .u8 0, .int .u8 0, .int .u8 0, .int .u8 0, .int .u8 0, .int .u8 0, .int .u8 0, .int .u8 0, .int .u8 0, .int .u8 0, .int .u8 0, .int .u8 0, .int .u8 0, .int .u8 0, .int .u8 0, .int .u8 0, .int .u8 0, .int .u8 0, .int .u8 0, .int .u8 0, .int .u8 0, .int .u8 0, .int .u8 0, .int .u8 0, .int .u8 0, .int .u8 0, .int .u8 0, .int .u8 0, .int .u8 0, .int .u8 0, .int .u8 0, .int .u8 0, .int .u8 0, .int .u8 0, .int .u8 0, .int .u8 0, .int .u8 0, .int .u8 0, .int .u8 0, .int .u8 0, .int .u8 0, .int .u8 0, .int .u8 0, .int .u8 0, .int .u8 0, .int .u8 0, .int .u8 0, .int .u8 0, .int .u8 0, .int .u8 0, .int .i64 0]) := by kernel_rfl
instance : Fld Tryz.prog 141 0 0 := ⟨⟨_, _, _, Tryz.underlying141, rfl, size138, rfl⟩⟩
def shaM (M : List Int) : List Int := digB (cmp (M ++ endB M.length 8) ((M ++ endB M.length 8).length / 64)) 8
attribute [irreducible] shaM
theorem sha_of {M st rs : List Int} (h : HashOK (M ++ endB M.length 8) st rs) : digB st 8 = shaM M := by
 unfold shaM
 unfold HashOK at h
 rw [← h.1]
theorem shaM_len (M : List Int) : (shaM M).length = 32 := by unfold shaM; exact digB_len _ _
theorem srcN_ent {w : World} {g ge t tot m : Nat} {W : List Int} {kd : IntKind} (hl : Ent.lies ⟨ge, t, W.map (int kd), tot⟩ w) (hW : W.length = m) (hne : ge ≠ g) : SrcN w g (some ⟨ge, 0, none⟩) m kd W :=
 ⟨hW, .inr ⟨ge, 0, rfl, hl.lt, hne, fun j hj => by rw [Nat.zero_add]; exact hl.cell (qn (by omega))⟩⟩
theorem sum_c (M st rs : List Int) (g : Nat) (w : World) (hk : HashOK M st rs) (hst : st.length = 8) (hrs : rs.length = 64) (hl : Ent.lies ⟨g, 141, st.map (int .u32) ++ (rs.map (int .u8) ++ ([int .i64 (M.length : Int)])), 73⟩ w) (hn : M.length ≤ 4611686018427387000) (hb1 : 2 < w.heap.size) (hK : RowI w 2 0 64 .u32 KT) : Calls Tryz.prog 67 #[.pointer (some ⟨g, 0, none⟩)] w fun e w' => e = .returned (.agg ((shaM M).map (int .u8)).toArray) ∧ St w [] w' := by
 have hg : g < w.heap.size := hl.lt
 have hz := zerosN_lt M.length
 refine qM (args := [.pointer (some ⟨g, 0, none⟩)]) Tryz.func67 rfl Tryz.ntmps67 (by simp) ?_
 refine qC [0] ?_
 iterate 2 refine gx ?_
 refine TL.alloc (qA rfl) rfl rfl zero23 (cs := (List.replicate 32 0).map (int .u8)) rfl (tot := 32) (by simp) (fun g1 hg1 => ?_)
 iterate 6 refine gx ?_
 refine qB (qA rfl) rfl (Gets.ptrNil rfl Tryz.underlying103 rfl rfl) ?_
 iterate 2 refine gx ?_
 refine qV rfl ?_
 iterate 5 refine gx ?_
 refine qB (qA rfl) rfl (qf rfl rfl) ?_
 refine qB (qA rfl) rfl (qj rfl agg141 size141 rfl (vs := st.map (int .u32) ++ (rs.map (int .u8) ++ ([int .i64 (M.length : Int)]))) (by simp [hst, hrs]) (Row.old (fun j u hu => by rw [Nat.zero_add]; exact hl.cell hu) hg (qD (by show g1 ≠ g; omega) qE))) ?_
 refine TL.alloc (qA rfl) rfl rfl zero141 (cs := (List.replicate 8 0).map (int .u32) ++ ((List.replicate 64 0).map (int .u8) ++ ([int .i64 0]))) rfl (tot := 73) (by simp) (fun g2 hg2 => ?_)
 refine TL.storeW (qA rfl) rfl rfl size141 rfl (vs := st.map (int .u32) ++ (rs.map (int .u8) ++ ([int .i64 (M.length : Int)]))) rfl (by simp [hst, hrs]) (ones_app zB (ones_app zB (by simp [Value.oneCell']))) (i := 0) (ent := ⟨g2, 141, (List.replicate 8 0).map (int .u32) ++ ((List.replicate 64 0).map (int .u8) ++ ([int .i64 0])), 73⟩) rfl rfl (by simp []) (H' := [⟨g2, 141, st.map (int .u32) ++ (rs.map (int .u8) ++ ([int .i64 (M.length : Int)])), 73⟩, ⟨g1, 23, (List.replicate 32 0).map (int .u8), 32⟩]) rfl ?_
 iterate 5 refine gx ?_
 refine qB (qA rfl) rfl (qf rfl rfl) ?_
 refine gx ?_
 refine qB (qA rfl) rfl (qN rfl agg3 rfl (qi (hl.cell (app_right (a := 8) (i := 64) (ints_len hst) (app_right (a := 64) (i := 0) (ints_len hrs) rfl))) hg (qD (by show g2 ≠ g; omega) (qD (by show g1 ≠ g; omega) qE)))) ?_
 refine qt (ι := Nat) (V := fun ge => .slice (some ⟨ge, 0, none⟩) ((zerosN M.length) + 9) ((zerosN M.length) + 9)) (R := fun ge => w.heap.size ≤ ge ∧ ge ≠ g2) (H' := fun ge => [⟨ge, 5, (endB M.length 8).map (int .u8), (zerosN M.length + 9)⟩, ⟨g2, 141, st.map (int .u32) ++ (rs.map (int .u8) ++ ([int .i64 (M.length : Int)])), 73⟩, ⟨g1, 23, (List.replicate 32 0).map (int .u8), 32⟩]) (qA rfl) rfl enters95 rfl rfl (fun w hs => (ending_c M.length w (by omega)).mono fun e w' ⟨g, he, hge, hw⟩ => ⟨g, he, ⟨Nat.le_trans hs.size hge, fun h => by have := (hs.has _ (List.mem_cons_self)).lt; have h2 : g2 < w.heap.size := this; omega⟩, hs.made hw hge⟩) (fun ge hge => ?_)
 refine qt (ι := List Int × List Int) (V := fun s => .tuple #[]) (R := fun s => HashOK (M ++ endB M.length 8) s.1 s.2) (H' := fun s => [⟨ge, 5, (endB M.length 8).map (int .u8), (zerosN M.length + 9)⟩, ⟨g2, 141, s.1.map (int .u32) ++ (s.2.map (int .u8) ++ ([int .i64 ((M ++ endB M.length 8).length : Int)])), 73⟩, ⟨g1, 23, (List.replicate 32 0).map (int .u8), 32⟩]) (qA rfl) rfl enters94 rfl rfl (fun w hs => (take_m M (endB M.length 8) st rs g2 (some ⟨ge, 0, none⟩) (zerosN M.length + 9) (zerosN M.length + 9) w hk (hs.has (⟨g2, 141, st.map (int .u32) ++ (rs.map (int .u8) ++ ([int .i64 (M.length : Int)])), 73⟩) (by simp)) (srcN_ent (hs.has (⟨ge, 5, (endB M.length 8).map (int .u8), (zerosN M.length + 9)⟩) (by simp)) (endB_len M.length 8) hge.2) (Nat.le_refl _) (by omega) (Nat.lt_of_lt_of_le hb1 hs.size) (by omega) (hK.keepH hs hb1 (qD (by show ge ≠ 2; omega) (qD (by show g2 ≠ 2; omega) (qD (by show g1 ≠ 2; omega) qE))))).mono fun e w' ⟨he, st', rs', h1, h2⟩ => ⟨(st', rs'), he, h1, hs.turn (i := 1) rfl rfl h2⟩) (fun s hs2 => ?_)
 have hx1 := hs2.len
 have hx2 := hs2.rlen
 iterate 2 refine gx ?_
 refine qC [2, 3] ?_
 iterate 3 refine gx ?_
 refine qL (qA rfl) rfl enters96 rfl rfl (v := .agg ((shaM M).map (int .u8)).toArray) (fun w hs => (digest_c s.1 (s.2.map (int .u8) ++ [int .i64 ((M ++ endB M.length 8).length : Int)]) g2 141 73 w hx1 (hs.has (⟨g2, 141, s.1.map (int .u32) ++ (s.2.map (int .u8) ++ ([int .i64 ((M ++ endB M.length 8).length : Int)])), 73⟩) (by simp))).mono fun e w' ⟨he, hw⟩ => ⟨by rw [sha_of hs2] at he; exact he, hw⟩) ?_
 refine TL.storeW (qA rfl) rfl rfl size23 rfl (vs := (shaM M).map (int .u8)) rfl (by simp [(shaM_len M)]) zB (i := 2) (ent := ⟨g1, 23, (List.replicate 32 0).map (int .u8), 32⟩) rfl rfl (by simp []) (H' := [⟨ge, 5, (endB M.length 8).map (int .u8), (zerosN M.length + 9)⟩, ⟨g2, 141, s.1.map (int .u32) ++ (s.2.map (int .u8) ++ ([int .i64 ((M ++ endB M.length 8).length : Int)])), 73⟩, ⟨g1, 23, (shaM M).map (int .u8), 32⟩]) rfl ?_
 iterate 3 refine gx ?_
 exact qo rfl agg23 size23 rfl (vs := (shaM M).map (int .u8)) (by simp [(shaM_len M)]) (qW (i := 2) (ent := ⟨g1, 23, (shaM M).map (int .u8), 32⟩) rfl rfl rfl) (fun w hs => ⟨rfl, (((hs.drop (by first | assumption | exact hge.1)).drop (by first | assumption | exact hge.1)).drop (by first | assumption | exact hge.1))⟩)
theorem PartsO.keep' {w w' : World} {H : List Ent} {A : Option Addr} {m g : Nat} {Ps : List (List Int)} (h : PartsO w A m Ps) (hs : St w H w') (hg : ∀ b, b < w.heap.size → b ≠ g ∧ ∀ e ∈ H, e.g ≠ b) : PartsN w' g A m Ps := by
 obtain ⟨h1, h2⟩ := h
 refine ⟨h1, ?_⟩
 rcases h2 with h2 | ⟨b, off, hA, hb, hc⟩
 ·exact .inl h2
 ·refine .inr ⟨b, off, hA, Nat.lt_of_lt_of_le hb hs.size, (hg b hb).1, fun i hi => ?_⟩
  obtain ⟨Ai, mi, ci, k1, k2, k3⟩ := hc i hi
  refine ⟨Ai, mi, ci, (hs.old_cell (ad := ⟨b, off + i, none⟩) hb (hg b hb).2).trans k1, ?_, k3⟩
  obtain ⟨l1, l2⟩ := k2
  refine ⟨l1, ?_⟩
  rcases l2 with l2 | ⟨b', off', hA', hb', hr'⟩
  ·exact .inl l2
  ·exact .inr ⟨b', off', hA', Nat.lt_of_lt_of_le hb' hs.size, (hg b' hb').1, fun j hj => (hs.old_cell (ad := ⟨b', off' + j, none⟩) hb' (hg b' hb').2).trans (hr' j hj)⟩
theorem of_c (Ps : List (List Int)) (A : Option Addr) (m c : Nat) (w : World) (hP : PartsO w A m Ps) (hmc : m ≤ c) (hcm : c ≤ 9223372036854775807) (hn : Ps.flatten.length ≤ 4611686018427387000) (hb1 : 2 < w.heap.size) (hIV : RowI w 0 0 8 .u32 IV) (hK : RowI w 2 0 64 .u32 KT) : Calls Tryz.prog 36 #[.slice A m c] w fun e w' => e = .returned (.agg ((shaM Ps.flatten).map (int .u8)).toArray) ∧ St w [] w' := by
 refine qM (args := [.slice A m c]) Tryz.func36 rfl Tryz.ntmps36 (by simp) ?_
 refine qC [0] ?_
 iterate 2 refine gx ?_
 refine TL.alloc (qA rfl) rfl rfl zero23 (cs := (List.replicate 32 0).map (int .u8)) rfl (tot := 32) (by simp) (fun g1 hg1 => ?_)
 iterate 4 refine gx ?_
 refine qt (ι := Nat) (V := fun gn => .pointer (some ⟨gn, 0, none⟩)) (R := fun gn => w.heap.size ≤ gn) (H' := fun gn => [⟨gn, 141, IV.map (int .u32) ++ ((List.replicate 64 0).map (int .u8) ++ ([int .i64 0])), 73⟩, ⟨g1, 23, (List.replicate 32 0).map (int .u8), 32⟩]) (qA rfl) rfl enters65 rfl rfl (fun w hs => (new_c w (by have := hs.size; omega) (hIV.keepH hs (by omega) (qD (by show g1 ≠ 0; omega) qE))).mono fun e w' ⟨g, he, hge, hw⟩ => ⟨g, he, Nat.le_trans hs.size hge, hs.made hw hge⟩) (fun gn hgn => ?_)
 iterate 7 refine gx ?_
 refine qt (ι := List Int × List Int) (V := fun s => .int .i64 (Ps.flatten.length : Int)) (R := fun s => HashOK Ps.flatten s.1 s.2) (H' := fun s => [⟨gn, 141, s.1.map (int .u32) ++ (s.2.map (int .u8) ++ ([int .i64 (Ps.flatten.length : Int)])), 73⟩, ⟨g1, 23, (List.replicate 32 0).map (int .u8), 32⟩]) (qA rfl) rfl enters66 rfl rfl (fun w hs => (write_c [] IV (List.replicate 64 0) Ps gn A m c w hash_nil rfl (by simp) (hs.has (⟨gn, 141, IV.map (int .u32) ++ ((List.replicate 64 0).map (int .u8) ++ ([int .i64 0])), 73⟩) (by simp)) (hP.keep' hs (fun b hb => ⟨by omega, qD (by show gn ≠ b; omega) (qD (by show g1 ≠ b; omega) qE)⟩)) hmc hcm (by simp only [List.length_nil]; omega) (Nat.lt_of_lt_of_le hb1 hs.size) (by omega) (hK.keepH hs hb1 (qD (by show gn ≠ 2; omega) (qD (by show g1 ≠ 2; omega) qE)))).mono fun e w' ⟨he, st', rs', h1, h2⟩ => ⟨(st', rs'), he, by simpa using h1, by have h3 := hs.turn0 h2 rfl; simp only [List.nil_append] at h3; exact h3⟩) (fun s hs2 => ?_)
 have hx1 := hs2.len
 have hx2 := hs2.rlen
 iterate 5 refine gx ?_
 refine qL (qA rfl) rfl enters67 rfl rfl (v := .agg ((shaM Ps.flatten).map (int .u8)).toArray) (fun w hs => (sum_c Ps.flatten s.1 s.2 gn w hs2 hx1 hx2 (hs.has (⟨gn, 141, s.1.map (int .u32) ++ (s.2.map (int .u8) ++ ([int .i64 (Ps.flatten.length : Int)])), 73⟩) (by simp)) (by omega) (Nat.lt_of_lt_of_le hb1 hs.size) (hK.keepH hs hb1 (qD (by show gn ≠ 2; omega) (qD (by show g1 ≠ 2; omega) qE))))) ?_
 refine TL.storeW (qA rfl) rfl rfl size23 rfl (vs := (shaM Ps.flatten).map (int .u8)) rfl (by simp [(shaM_len Ps.flatten)]) zB (i := 1) (ent := ⟨g1, 23, (List.replicate 32 0).map (int .u8), 32⟩) rfl rfl (by simp []) (H' := [⟨gn, 141, s.1.map (int .u32) ++ (s.2.map (int .u8) ++ ([int .i64 (Ps.flatten.length : Int)])), 73⟩, ⟨g1, 23, (shaM Ps.flatten).map (int .u8), 32⟩]) rfl ?_
 iterate 3 refine gx ?_
 exact qo rfl agg23 size23 rfl (vs := (shaM Ps.flatten).map (int .u8)) (by simp [(shaM_len Ps.flatten)]) (qW (i := 1) (ent := ⟨g1, 23, (shaM Ps.flatten).map (int .u8), 32⟩) rfl rfl rfl) (fun w hs => ⟨rfl, ((hs.drop (by assumption)).drop (by assumption))⟩)
/-
 Contracts of package sha: Format; of package strings: HasPrefix.
-/
/-
 The chapter's examples.
-/
/-
 ShaClones: the walk.
-/
theorem of_m (Ps : List (List Int)) (M : List Int) (hM : Ps.flatten = M) (A : Option Addr) (m c : Nat) (w : World) (hP : PartsO w A m Ps) (hmc : m ≤ c) (hcm : c ≤ 9223372036854775807) (hn : M.length ≤ 4611686018427387000) (hb1 : 2 < w.heap.size) (hIV : RowI w 0 0 8 .u32 IV) (hK : RowI w 2 0 64 .u32 KT) :
  Calls Tryz.prog 36 #[.slice A m c] w fun e w' => e = .returned (.agg ((shaM M).map (int .u8)).toArray) ∧ St w [] w' := by
 subst hM
 exact of_c Ps A m c w hP hmc hcm hn hb1 hIV hK
/-
 ShaNil: the walk.
-/
/-
 ShaParts: the walk.
-/
/-
 Digits; strings.IndexByte.
-/
/-
 Parse.
-/
/-
 The reference's Format and Right.
-/
/-
 ShaDigits: the walk.
-/
/-
 The reference: numbers of four words.
-/
theorem zero151 : (Tryz.prog.info? 151).bind (·.zero) = some (.agg #[.int .u64 0, .int .u64 0, .int .u64 0, .int .u64 0]) := by kernel_rfl
instance : Zer Tryz.prog 151 [int .u64 0, int .u64 0, int .u64 0, int .u64 0] := ⟨⟨_, zero151, rfl⟩⟩
def wscale (V : List Int) (q : Int) : Nat → List Int × Int
 | 0 => (List.replicate 4 0, 0)
 | k + 1 => ((wscale V q k).1.set k (andI .u64 (addW .u64 (mulW .u64 (V.getD k 0) q) (wscale V q k).2) 4294967295), shrI .u64 (addW .u64 (mulW .u64 (V.getD k 0) q) (wscale V q k).2) 32)
def wshift (V : List Int) : Nat → List Int × Int
 | 0 => (List.replicate 4 0, 0)
 | k + 1 => ((wshift V k).1.set k (andI .u64 (addW .u64 (shlI .u64 (V.getD k 0) 16) (wshift V k).2) 4294967295), shrI .u64 (addW .u64 (shlI .u64 (V.getD k 0) 16) (wshift V k).2) 32)
def wplus (V U : List Int) : Nat → List Int × Int
 | 0 => (List.replicate 4 0, 0)
 | k + 1 => ((wplus V U k).1.set k (andI .u64 (addW .u64 (addW .u64 (V.getD k 0) (U.getD k 0)) (wplus V U k).2) 4294967295), shrI .u64 (addW .u64 (addW .u64 (V.getD k 0) (U.getD k 0)) (wplus V U k).2) 32)
attribute [irreducible] wscale wshift wplus
/-
 The reference: roots by bisection.
-/
def wtimes (V : List Int) (q : Int) : List Int := (wplus (wscale V (andI .u64 q 65535) 4).1 (wshift (wscale V (shrI .u64 q 16) 4).1 4).1 4).1
def lessF (A B : List Int) : Nat → Bool
 | 0 => true
 | k + 1 => if A.getD k 0 ≠ B.getD k 0 then decide (A.getD k 0 < B.getD k 0) else lessF A B k
def sqA (m : Int) : List Int := wtimes [andI .u64 m 4294967295, shrI .u64 m 32, 0, 0] m
attribute [irreducible] wtimes
def lessM (m n : Int) : Bool → Bool
 | true => lessF (wtimes (sqA m) m) [0, 0, 0, n] 4
 | false => lessF (sqA m) [0, 0, n, 0] 4
attribute [irreducible] sqA lessF lessM
/-
 The reference: schedule.
-/
def wordN (B L : List Int) (t : Nat) : Int := addW .u32 (addW .u32 (addW .u32 (sig1 (L.getD (t + 14) 0)) (L.getD (t + 9) 0)) (sig0 (L.getD (t + 1) 0))) (L.getD t 0)
attribute [local irreducible] wordN
/-
 The reference: block.
-/
/-
 The reference: pad.
-/
/-
 The reference: primes.
-/
instance : Sli Tryz.prog 97 73 := ⟨Tryz.underlying97⟩
/-
 The reference: Constants.
-/
/-
 The constants: the numbers.
-/
/-
 The constants: a quarter of the cube roots.
-/
/-
 The constants: a quarter of the cube roots.
-/
/-
 The constants: a quarter of the cube roots.
-/
/-
 The constants: a quarter of the cube roots.
-/
/-
 The reference: the constants are the tables.
-/
/-
 The reference: Table.
-/
theorem agg36 : (isAgg 36).run Tryz.prog = fun w => .ok true w := isAgg_yes Tryz.underlying36 rfl
theorem size36 : (Tryz.prog.info? 36).map (·.size) = some 2 := by kernel_rfl
theorem zero36 : (Tryz.prog.info? 36).bind (·.zero) = some (.agg #[.slice none 0 0, .slice none 0 0]) := by kernel_rfl
instance : Siz Tryz.prog 36 2 := ⟨size36⟩
instance : Zer Tryz.prog 36 [slice none 0 0, slice none 0 0] := ⟨⟨_, zero36, rfl⟩⟩
/-
 The reference: With.
-/
theorem agg34 : (isAgg 34).run Tryz.prog = fun w => .ok false w := isAgg_no Tryz.underlying34 rfl
theorem size34 : (Tryz.prog.info? 34).map (·.size) = some 1 := by kernel_rfl
instance : AgN Tryz.prog 34 := ⟨agg34⟩
instance : Fld Tryz.prog 36 0 0 := ⟨⟨_, _, _, Tryz.underlying36, rfl, size34, rfl⟩⟩
def padM (M : List Int) : List Int := M ++ endB M.length 8
attribute [irreducible] padM
def digI (V : List Int) : Nat → List Int
 | 0 => List.replicate 32 0
 | k + 1 => (digI V k).set k (IntKind.u8.wrap (shrI .u32 (V.getD (k / 4) 0) (24 - 8 * ((k : Int) % 4))))
attribute [irreducible] digI
attribute [local irreducible] blk
/-
 The reference: Of.
-/
/-
 ShaDigests: the walk.
-/
/-
 ShaLengths: the walk.
-/
/-
 Contracts of packages extent and command: End, between, Valid, bytes, Copy, describe.
-/
theorem agg118 : (isAgg 118).run Tryz.prog = fun w => .ok true w := isAgg_yes Tryz.underlying118 rfl
theorem agg121 : (isAgg 121).run Tryz.prog = fun w => .ok true w := isAgg_yes Tryz.underlying121 rfl
theorem agg54 : (isAgg 54).run Tryz.prog = fun w => .ok true w := isAgg_yes Tryz.underlying54 rfl
theorem agg81 : (isAgg 81).run Tryz.prog = fun w => .ok true w := isAgg_yes Tryz.underlying81 rfl
theorem enters51 : Enters Tryz.prog 51 := ⟨_, Tryz.func51, by kernel_rfl, by kernel_rfl⟩
theorem enters61 : Enters Tryz.prog 61 := ⟨_, Tryz.func61, by kernel_rfl, by kernel_rfl⟩
theorem enters98 : Enters Tryz.prog 98 := ⟨_, Tryz.func98, by kernel_rfl, by kernel_rfl⟩
theorem size118 : (Tryz.prog.info? 118).map (·.size) = some 2 := by kernel_rfl
theorem size121 : (Tryz.prog.info? 121).map (·.size) = some 6 := by kernel_rfl
theorem size54 : (Tryz.prog.info? 54).map (·.size) = some 5 := by kernel_rfl
theorem size81 : (Tryz.prog.info? 81).map (·.size) = some 2 := by kernel_rfl
theorem zero121 : (Tryz.prog.info? 121).bind (·.zero) = some (.agg #[.int .i64 0, .int .i64 0, .int .i64 0, .int .i64 0, .int .i64 0, .bool false]) := by kernel_rfl
theorem zero54 : (Tryz.prog.info? 54).bind (·.zero) = some (.agg #[.int .i64 0, .int .i64 0, .int .i64 0, .int .i64 0, .slice none 0 0]) := by kernel_rfl
theorem zero81 : (Tryz.prog.info? 81).bind (·.zero) = some (.agg #[.int .i64 0, .int .i64 0]) := by kernel_rfl
instance : AgN Tryz.prog 22 := ⟨agg22⟩
instance : AgN Tryz.prog 3 := ⟨agg3⟩
instance : AgY Tryz.prog 118 := ⟨agg118⟩
instance : Fld Tryz.prog 54 0 0 := ⟨⟨_, _, _, Tryz.underlying54, rfl, size3, rfl⟩⟩
instance : Fld Tryz.prog 54 1 1 := ⟨⟨_, _, _, Tryz.underlying54, rfl, size3, rfl⟩⟩
instance : Fld Tryz.prog 54 2 2 := ⟨⟨_, _, _, Tryz.underlying54, rfl, size3, rfl⟩⟩
instance : Fld Tryz.prog 54 3 3 := ⟨⟨_, _, _, Tryz.underlying54, rfl, size3, rfl⟩⟩
instance : Fld Tryz.prog 54 4 4 := ⟨⟨_, _, _, Tryz.underlying54, rfl, size22, rfl⟩⟩
instance : Fld Tryz.prog 81 0 0 := ⟨⟨_, _, _, Tryz.underlying81, rfl, size3, rfl⟩⟩
instance : Fld Tryz.prog 81 1 1 := ⟨⟨_, _, _, Tryz.underlying81, rfl, size3, rfl⟩⟩
instance : Siz Tryz.prog 118 2 := ⟨size118⟩
instance : Siz Tryz.prog 121 6 := ⟨size121⟩
instance : Siz Tryz.prog 54 5 := ⟨size54⟩
instance : Siz Tryz.prog 81 2 := ⟨size81⟩
instance : Sli Tryz.prog 22 5 := ⟨Tryz.underlying22⟩
instance : Zer Tryz.prog 121 [int .i64 0, int .i64 0, int .i64 0, int .i64 0, int .i64 0, Value.bool false] := ⟨⟨_, zero121, rfl⟩⟩
instance : Zer Tryz.prog 54 [int .i64 0, int .i64 0, int .i64 0, int .i64 0, slice none 0 0] := ⟨⟨_, zero54, rfl⟩⟩
instance : Zer Tryz.prog 81 [int .i64 0, int .i64 0] := ⟨⟨_, zero81, rfl⟩⟩
def vld (o l : Int) : Prop := 0 ≤ o ∧ 0 ≤ l ∧ o + l ≤ 4611686018427387903
instance (o l : Int) : Decidable (vld o l) := by unfold vld; infer_instance
theorem end_c (o l : Int) (h : -9223372036854775808 ≤ o + l ∧ o + l ≤ 9223372036854775807) (w : World) : Calls Tryz.prog 72 #[.agg ([int .i64 o, int .i64 l]).toArray] w fun e w' => e = .returned (.int .i64 (o + l)) ∧ St w [] w' := by
 refine qM (args := [.agg ([int .i64 o, int .i64 l]).toArray]) Tryz.func72 rfl Tryz.ntmps72 (by simp) ?_
 refine qC [0] ?_
 iterate 2 refine gx ?_
 refine qc (fun g1 hg1 => ?_)
 iterate 9 refine gx ?_
 refine qB (qA rfl) rfl (qQ rfl rfl rfl (r := (o + l)) (w64 (by omega) (by omega))) ?_
 iterate 4 refine gx ?_
 exact qJ rfl rfl (fun w hs => ⟨ret_i (rfl), (hs.drop (by assumption))⟩)
theorem valid_c (o l : Int) (bo : -9223372036854775808 ≤ o ∧ o ≤ 9223372036854775807) (bl : -9223372036854775808 ≤ l ∧ l ≤ 9223372036854775807) (w : World) : Calls Tryz.prog 61 #[.agg ([int .i64 o, int .i64 l]).toArray] w fun e w' => e = .returned (.bool (decide (vld o l))) ∧ St w [] w' := by
 refine qM (args := [.agg ([int .i64 o, int .i64 l]).toArray]) Tryz.func61 rfl Tryz.ntmps61 (by simp) ?_
 refine qC [0] ?_
 iterate 2 refine gx ?_
 refine qc (fun g1 hg1 => ?_)
 iterate 7 refine gx ?_
 by_cases c1 : 0 ≤ o
 ·refine qB (qA rfl) rfl (qS (Gets.geq rfl rfl rfl) c1) ?_
  iterate 3 refine gx ?_
  by_cases c2 : 0 ≤ l
  ·refine qB (qI rfl rfl rfl) rfl (qS (Gets.geq rfl rfl rfl) c2) ?_
   iterate 6 refine gx ?_
   refine qB (qI rfl rfl rfl) rfl (qy rfl rfl rfl (r := (4611686018427387903 - l)) (w64 (by omega) (by omega))) ?_
   iterate 6 refine gx ?_
   exact qJ rfl rfl (fun w hs => ⟨dec_iff (by unfold vld; omega), (hs.drop (by assumption))⟩)
  ·refine qB (qI rfl rfl rfl) rfl (qR (Gets.geq rfl rfl rfl) c2) ?_
   iterate 13 refine gx ?_
   exact qJ rfl rfl (fun w hs => ⟨dec_f (by unfold vld; omega), (hs.drop (by assumption))⟩)
 ·refine qB (qA rfl) rfl (qR (Gets.geq rfl rfl rfl) c1) ?_
  iterate 17 refine gx ?_
  exact qJ rfl rfl (fun w hs => ⟨dec_f (by unfold vld; omega), (hs.drop (by assumption))⟩)
theorem max_c (w : World) : Calls Tryz.prog 51 #[] w fun e w' => e = .returned (.int .i64 4611686018427387903) ∧ St w [] w' := by
 refine qM (args := []) Tryz.func51 rfl Tryz.ntmps51 (by simp) ?_
 refine qC [] ?_
 iterate 11 refine gx ?_
 exact qJ rfl rfl (fun w hs => ⟨ret_i (rfl), hs⟩)
theorem rvalid_c (o l : Int) (bo : -9223372036854775808 ≤ o ∧ o ≤ 9223372036854775807) (bl : -9223372036854775808 ≤ l ∧ l ≤ 9223372036854775807) (w : World) : Calls Tryz.prog 108 #[.agg ([int .i64 o, int .i64 l]).toArray] w fun e w' => e = .returned (.bool (decide (vld o l))) ∧ St w [] w' := by
 refine qM (args := [.agg ([int .i64 o, int .i64 l]).toArray]) Tryz.func108 rfl Tryz.ntmps108 (by simp) ?_
 refine qC [0] ?_
 iterate 2 refine gx ?_
 refine qc (fun g1 hg1 => ?_)
 iterate 4 refine gx ?_
 refine qs (by kernel_rfl) [0, 1, 0, 0, 0, 1, 0, 0, 0, 0, 1, 1, 0, 0, 0, 0, 1, 1, 0, 1, 0, 0, 0, 0] rfl (by kernel_rfl) ?_
 iterate 2 refine gx ?_
 by_cases c1 : 0 ≤ o
 ·refine qG (qA rfl) rfl (fun _ => qS (Gets.geq rfl rfl rfl) c1) ?_
  iterate 3 refine gx ?_
  by_cases c2 : 0 ≤ l
  ·refine qG (qI rfl rfl rfl) rfl (fun _ => qS (Gets.geq rfl rfl rfl) c2) ?_
   iterate 4 refine gx ?_
   refine qz (qI rfl rfl rfl) rfl enters51 rfl rfl (v := .int .i64 4611686018427387903) (fun w hs => max_c w) ?_
   by_cases c3 : o ≤ 4611686018427387903
   ·refine qG (qI rfl rfl rfl) rfl (fun _ => qS (Gets.leq rfl rfl rfl) c3) ?_
    iterate 4 refine gx ?_
    refine qz (qI rfl rfl rfl) rfl enters51 rfl rfl (v := .int .i64 4611686018427387903) (fun w hs => max_c w) ?_
    iterate 2 refine gx ?_
    refine qG (qI rfl rfl rfl) rfl (fun _ => qy rfl rfl rfl (r := (4611686018427387903 - o)) (w64 (by omega) (by omega))) ?_
    iterate 6 refine gx ?_
    exact qJ rfl rfl (fun w hs => ⟨dec_iff (by unfold vld; omega), (hs.drop (by assumption))⟩)
   ·refine qG (qI rfl rfl rfl) rfl (fun _ => qR (Gets.leq rfl rfl rfl) c3) ?_
    iterate 2 refine gx ?_
    refine qk rfl rfl rfl rfl rfl ?_
    refine ql rfl rfl rfl rfl rfl ?_
    refine ql rfl rfl rfl rfl rfl ?_
    refine qk rfl rfl rfl rfl rfl ?_
    refine ql rfl rfl rfl rfl rfl ?_
    refine qk rfl rfl rfl rfl rfl ?_
    refine qk rfl rfl rfl rfl rfl ?_
    iterate 5 refine gx ?_
    exact qJ rfl rfl (fun w hs => ⟨dec_f (by unfold vld; omega), (hs.drop (by assumption))⟩)
  ·refine qG (qI rfl rfl rfl) rfl (fun _ => qR (Gets.geq rfl rfl rfl) c2) ?_
   iterate 2 refine gx ?_
   refine qk rfl rfl rfl rfl rfl ?_
   refine ql rfl rfl rfl rfl rfl ?_
   refine ql rfl rfl rfl rfl rfl ?_
   refine qk rfl rfl rfl rfl rfl ?_
   iterate 2 refine gx ?_
   refine qk rfl rfl rfl rfl rfl ?_
   refine ql rfl rfl rfl rfl rfl ?_
   refine ql rfl rfl rfl rfl rfl ?_
   refine qk rfl rfl rfl rfl rfl ?_
   refine ql rfl rfl rfl rfl rfl ?_
   refine qk rfl rfl rfl rfl rfl ?_
   refine qk rfl rfl rfl rfl rfl ?_
   iterate 5 refine gx ?_
   exact qJ rfl rfl (fun w hs => ⟨dec_f (by unfold vld; omega), (hs.drop (by assumption))⟩)
 ·refine qG (qA rfl) rfl (fun _ => qR (Gets.geq rfl rfl rfl) c1) ?_
  refine gx ?_
  refine qk rfl rfl rfl rfl rfl ?_
  refine ql rfl rfl rfl rfl rfl ?_
  refine qk rfl rfl rfl rfl rfl ?_
  iterate 2 refine gx ?_
  refine qk rfl rfl rfl rfl rfl ?_
  refine ql rfl rfl rfl rfl rfl ?_
  refine ql rfl rfl rfl rfl rfl ?_
  refine qk rfl rfl rfl rfl rfl ?_
  iterate 2 refine gx ?_
  refine qk rfl rfl rfl rfl rfl ?_
  refine ql rfl rfl rfl rfl rfl ?_
  refine ql rfl rfl rfl rfl rfl ?_
  refine qk rfl rfl rfl rfl rfl ?_
  refine ql rfl rfl rfl rfl rfl ?_
  refine qk rfl rfl rfl rfl rfl ?_
  refine qk rfl rfl rfl rfl rfl ?_
  iterate 5 refine gx ?_
  exact qJ rfl rfl (fun w hs => ⟨dec_f (by unfold vld; omega), (hs.drop (by assumption))⟩)
theorem bytes_c (o l : Int) (w : World) : Calls Tryz.prog 98 #[.agg ([int .i64 o, int .i64 l]).toArray] w fun e w' => e = .returned (.agg ([int .i64 o, int .i64 l]).toArray) ∧ St w [] w' := by
 refine qM (args := [.agg ([int .i64 o, int .i64 l]).toArray]) Tryz.func98 rfl Tryz.ntmps98 (by simp) ?_
 refine qC [0] ?_
 iterate 2 refine gx ?_
 refine qc (fun g1 hg1 => ?_)
 refine qZ (fun g2 hg2 => ?_)
 iterate 9 refine gx ?_
 exact qo rfl agg81 size81 rfl (vs := [int .i64 o, int .i64 l]) rfl (qW (i := 0) (ent := ⟨g2, 81, [int .i64 o, int .i64 l], 2⟩) rfl rfl rfl) (fun w hs => ⟨rfl, ((hs.drop (by assumption)).drop (by assumption))⟩)
theorem tvalid_c (o l : Int) (bo : -9223372036854775808 ≤ o ∧ o ≤ 9223372036854775807) (bl : -9223372036854775808 ≤ l ∧ l ≤ 9223372036854775807) (w : World) : Calls Tryz.prog 111 #[.agg ([int .i64 o, int .i64 l]).toArray] w fun e w' => e = .returned (.bool (decide (vld o l))) ∧ St w [] w' := by
 refine qM (args := [.agg ([int .i64 o, int .i64 l]).toArray]) Tryz.func111 rfl Tryz.ntmps111 (by simp) ?_
 refine qC [0] ?_
 iterate 2 refine gx ?_
 refine qc (fun g1 hg1 => ?_)
 iterate 6 refine gx ?_
 refine qL (qA rfl) rfl enters98 rfl rfl (v := .agg ([int .i64 o, int .i64 l]).toArray) (fun w hs => bytes_c o l w) ?_
 refine qL (qA rfl) rfl enters61 rfl rfl (v := .bool (decide (vld o l))) (fun w hs => valid_c o l (by omega) (by omega) w) ?_
 iterate 4 refine gx ?_
 exact qJ rfl rfl (fun w hs => ⟨dec_iff (Iff.rfl), (hs.drop (by assumption))⟩)
theorem copy_c (t f l : Int) (w : World) : Calls Tryz.prog 44 #[.int .i64 t, .int .i64 f, .int .i64 l] w fun e w' => e = .returned (.agg ([int .i64 1, int .i64 t, int .i64 f, int .i64 l, slice none 0 0]).toArray) ∧ St w [] w' := by
 refine qM (args := [.int .i64 t, .int .i64 f, .int .i64 l]) Tryz.func44 rfl Tryz.ntmps44 (by simp) ?_
 refine qC [0, 1, 2] ?_
 iterate 2 refine gx ?_
 refine qZ (fun g1 hg1 => ?_)
 iterate 7 refine gx ?_
 refine qB (qA rfl) rfl (qq rfl (vs := [(0, int .i64 1), (1, int .i64 t), (2, int .i64 f), (3, int .i64 l)]) rfl (fun w => by first | rfl | kernel_rfl) (v := .agg ([int .i64 1, int .i64 t, int .i64 f, int .i64 l, slice none 0 0]).toArray)) ?_
 iterate 4 refine gx ?_
 exact qo rfl agg54 size54 rfl (vs := [int .i64 1, int .i64 t, int .i64 f, int .i64 l, slice none 0 0]) rfl (qW (i := 0) (ent := ⟨g1, 54, [int .i64 1, int .i64 t, int .i64 f, int .i64 l, slice none 0 0], 5⟩) rfl rfl rfl) (fun w hs => ⟨rfl, (hs.drop (by assumption))⟩)
theorem describe1 (t f l : Int) (A : Option Addr) (m c : Nat) (w : World) : Calls Tryz.prog 81 #[.agg ([int .i64 1, int .i64 t, int .i64 f, int .i64 l, slice A m c]).toArray] w fun e w' => e = .returned (.agg ([int .i64 t, int .i64 l, int .i64 1, int .i64 f, int .i64 l, Value.bool (decide ((0 : Int) < (m : Int)))]).toArray) ∧ St w [] w' := by
 refine qM (args := [.agg ([int .i64 1, int .i64 t, int .i64 f, int .i64 l, slice A m c]).toArray]) Tryz.func81 rfl Tryz.ntmps81 (by simp) ?_
 refine qC [0] ?_
 iterate 2 refine gx ?_
 refine qc (fun g1 hg1 => ?_)
 refine qZ (fun g2 hg2 => ?_)
 iterate 12 refine gx ?_
 refine qB (qA rfl) rfl (qS (qg rfl rfl rfl) rfl) ?_
 iterate 3 refine gx ?_
 refine qb rfl ?_
 iterate 6 refine gx ?_
 refine qB (qA rfl) rfl (qq rfl (vs := [(0, int .i64 t), (1, int .i64 l)]) rfl (fun w => by first | rfl | kernel_rfl) (v := .agg ([int .i64 t, int .i64 l]).toArray)) ?_
 iterate 4 refine gx ?_
 refine qB (qA rfl) rfl (qq rfl (vs := [(0, int .i64 f), (1, int .i64 l)]) rfl (fun w => by first | rfl | kernel_rfl) (v := .agg ([int .i64 f, int .i64 l]).toArray)) ?_
 iterate 4 refine gx ?_
 refine qB (qA rfl) rfl (qq rfl (vs := [(0, Value.agg ([int .i64 t, int .i64 l]).toArray), (1, int .i64 1), (2, Value.agg ([int .i64 f, int .i64 l]).toArray), (3, Value.bool (decide (0 < (m : Int))))]) rfl (fun w => by first | rfl | kernel_rfl) (v := .agg ([int .i64 t, int .i64 l, int .i64 1, int .i64 f, int .i64 l, Value.bool (decide (0 < (m : Int)))]).toArray)) ?_
 iterate 6 refine gx ?_
 exact qo rfl agg121 size121 rfl (vs := [int .i64 t, int .i64 l, int .i64 1, int .i64 f, int .i64 l, Value.bool (decide (0 < (m : Int)))]) rfl (qW (i := 0) (ent := ⟨g2, 121, [int .i64 t, int .i64 l, int .i64 1, int .i64 f, int .i64 l, Value.bool (decide (0 < (m : Int)))], 6⟩) rfl rfl rfl) (fun w hs => ⟨rfl, ((hs.drop (by assumption)).drop (by assumption))⟩)
theorem describe2 (t f l : Int) (A : Option Addr) (m c : Nat) (w : World) : Calls Tryz.prog 81 #[.agg ([int .i64 2, int .i64 t, int .i64 f, int .i64 l, slice A m c]).toArray] w fun e w' => e = .returned (.agg ([int .i64 t, int .i64 (m : Int), int .i64 2, int .i64 0, int .i64 0, Value.bool (decide (¬ (f = 0 ∧ l = 0)))]).toArray) ∧ St w [] w' := by
 refine qM (args := [.agg ([int .i64 2, int .i64 t, int .i64 f, int .i64 l, slice A m c]).toArray]) Tryz.func81 rfl Tryz.ntmps81 (by simp) ?_
 refine qC [0] ?_
 iterate 2 refine gx ?_
 refine qc (fun g1 hg1 => ?_)
 refine qZ (fun g2 hg2 => ?_)
 iterate 12 refine gx ?_
 refine qB (qA rfl) rfl (qR (qg rfl rfl rfl) (by decide)) ?_
 iterate 3 refine gx ?_
 refine qV rfl ?_
 iterate 2 refine gx ?_
 refine qB (qA rfl) rfl (qS (qg rfl rfl rfl) rfl) ?_
 iterate 3 refine gx ?_
 refine qC [1, 2, 22] ?_
 refine qb rfl ?_
 iterate 7 refine gx ?_
 refine qB (qA rfl) rfl (qq rfl (vs := [(0, int .i64 t), (1, int .i64 (m : Int))]) rfl (fun w => by first | rfl | kernel_rfl) (v := .agg ([int .i64 t, int .i64 (m : Int)]).toArray)) ?_
 iterate 2 refine gx ?_
 by_cases c1 : f ≠ 0
 ·refine qB (qA rfl) rfl (qS (Gets.neq rfl rfl rfl) c1) ?_
  iterate 5 refine gx ?_
  refine qB (qA rfl) rfl (qq rfl (vs := [(0, Value.agg ([int .i64 t, int .i64 (m : Int)]).toArray), (1, int .i64 2), (3, Value.bool true)]) rfl (fun w => by first | rfl | kernel_rfl) (v := .agg ([int .i64 t, int .i64 (m : Int), int .i64 2, int .i64 0, int .i64 0, Value.bool true]).toArray)) ?_
  iterate 6 refine gx ?_
  exact qo rfl agg121 size121 rfl (vs := [int .i64 t, int .i64 (m : Int), int .i64 2, int .i64 0, int .i64 0, Value.bool true]) rfl (qW (i := 0) (ent := ⟨g2, 121, [int .i64 t, int .i64 (m : Int), int .i64 2, int .i64 0, int .i64 0, Value.bool true], 6⟩) rfl rfl rfl) (fun w hs => ⟨by rw [decide_eq_true (show ¬ (f = 0 ∧ l = 0) by omega)], ((hs.drop (by assumption)).drop (by assumption))⟩)
 ·refine qB (qA rfl) rfl (qR (Gets.neq rfl rfl rfl) c1) ?_
  iterate 5 refine gx ?_
  refine qB (qA rfl) rfl (qq rfl (vs := [(0, Value.agg ([int .i64 t, int .i64 (m : Int)]).toArray), (1, int .i64 2), (3, Value.bool (decide (l ≠ 0)))]) rfl (fun w => by first | rfl | kernel_rfl) (v := .agg ([int .i64 t, int .i64 (m : Int), int .i64 2, int .i64 0, int .i64 0, Value.bool (decide (l ≠ 0))]).toArray)) ?_
  iterate 6 refine gx ?_
  exact qo rfl agg121 size121 rfl (vs := [int .i64 t, int .i64 (m : Int), int .i64 2, int .i64 0, int .i64 0, Value.bool (decide (l ≠ 0))]) rfl (qW (i := 0) (ent := ⟨g2, 121, [int .i64 t, int .i64 (m : Int), int .i64 2, int .i64 0, int .i64 0, Value.bool (decide (l ≠ 0))], 6⟩) rfl rfl rfl) (fun w hs => ⟨by rw [show decide (l ≠ 0) = decide (¬ (f = 0 ∧ l = 0)) from decide_eq_decide.2 (by omega)], ((hs.drop (by assumption)).drop (by assumption))⟩)
theorem describe0 (k t f l : Int) (A : Option Addr) (m c : Nat) (h1 : ¬ k = 1) (h2 : ¬ k = 2) (w : World) : Calls Tryz.prog 81 #[.agg ([int .i64 k, int .i64 t, int .i64 f, int .i64 l, slice A m c]).toArray] w fun e w' => e = .returned (.agg ([int .i64 0, int .i64 0, int .i64 0, int .i64 0, int .i64 0, Value.bool false]).toArray) ∧ St w [] w' := by
 refine qM (args := [.agg ([int .i64 k, int .i64 t, int .i64 f, int .i64 l, slice A m c]).toArray]) Tryz.func81 rfl Tryz.ntmps81 (by simp) ?_
 refine qC [0] ?_
 iterate 2 refine gx ?_
 refine qc (fun g1 hg1 => ?_)
 refine qZ (fun g2 hg2 => ?_)
 iterate 12 refine gx ?_
 refine qB (qA rfl) rfl (qR (qg rfl rfl rfl) h1) ?_
 iterate 3 refine gx ?_
 refine qV rfl ?_
 iterate 2 refine gx ?_
 refine qB (qA rfl) rfl (qR (qg rfl rfl rfl) h2) ?_
 iterate 3 refine gx ?_
 refine qC [1, 2, 22] ?_
 refine qV rfl ?_
 iterate 5 refine gx ?_
 refine qB (qA rfl) rfl (qq rfl (vs := []) rfl (fun w => by first | rfl | kernel_rfl) (v := .agg ([int .i64 0, int .i64 0, int .i64 0, int .i64 0, int .i64 0, Value.bool false]).toArray)) ?_
 iterate 4 refine gx ?_
 exact qo rfl agg121 size121 rfl (vs := [int .i64 0, int .i64 0, int .i64 0, int .i64 0, int .i64 0, Value.bool false]) rfl (qW (i := 0) (ent := ⟨g2, 121, [int .i64 0, int .i64 0, int .i64 0, int .i64 0, int .i64 0, Value.bool false], 6⟩) rfl rfl rfl) (fun w hs => ⟨rfl, ((hs.drop (by assumption)).drop (by assumption))⟩)
/-
 Contracts of package command: Check.
-/
theorem agg119 : (isAgg 119).run Tryz.prog = fun w => .ok false w := isAgg_no Tryz.underlying119 rfl
theorem agg4 : (isAgg 4).run Tryz.prog = fun w => .ok false w := isAgg_no Tryz.underlying4 rfl
theorem enters111 : Enters Tryz.prog 111 := ⟨_, Tryz.func111, by kernel_rfl, by kernel_rfl⟩
theorem enters81 : Enters Tryz.prog 81 := ⟨_, Tryz.func81, by kernel_rfl, by kernel_rfl⟩
theorem size119 : (Tryz.prog.info? 119).map (·.size) = some 1 := by kernel_rfl
theorem size4 : (Tryz.prog.info? 4).map (·.size) = some 1 := by kernel_rfl
instance : AgN Tryz.prog 119 := ⟨agg119⟩
instance : AgY Tryz.prog 54 := ⟨agg54⟩
instance : Fld Tryz.prog 118 1 1 := ⟨⟨_, _, _, Tryz.underlying118, rfl, size3, rfl⟩⟩
instance : Fld Tryz.prog 121 0 0 := ⟨⟨_, _, _, Tryz.underlying121, rfl, size118, rfl⟩⟩
instance : Fld Tryz.prog 121 1 2 := ⟨⟨_, _, _, Tryz.underlying121, rfl, size119, rfl⟩⟩
instance : Fld Tryz.prog 121 2 3 := ⟨⟨_, _, _, Tryz.underlying121, rfl, size81, rfl⟩⟩
instance : Fld Tryz.prog 121 3 5 := ⟨⟨_, _, _, Tryz.underlying121, rfl, size4, rfl⟩⟩
def codeV (k t f l : Int) (m : Nat) : Int :=
 if k = 1 then (if l = 0 then 7 else if m = 0 ∧ vld t l ∧ vld f l then 0 else 2)
 else if k = 2 then (if m = 0 then 7 else if f = 0 ∧ l = 0 ∧ vld t m then 0 else 2) else 11
def lenV (k l : Int) (m : Nat) : Int := if k = 1 then l else m
theorem check1 (t f l : Int) (A : Option Addr) (m c : Nat) (bt : -9223372036854775808 ≤ t ∧ t ≤ 9223372036854775807) (bf : -9223372036854775808 ≤ f ∧ f ≤ 9223372036854775807) (bl : -9223372036854775808 ≤ l ∧ l ≤ 9223372036854775807) (w : World) : Calls Tryz.prog 87 #[.agg ([int .i64 1, int .i64 t, int .i64 f, int .i64 l, slice A m c]).toArray] w fun e w' => e = .returned (.int .i64 (codeV 1 t f l m)) ∧ St w [] w' := by
 refine qM (args := [.agg ([int .i64 1, int .i64 t, int .i64 f, int .i64 l, slice A m c]).toArray]) Tryz.func87 rfl Tryz.ntmps87 (by simp) ?_
 refine qC [0] ?_
 iterate 2 refine gx ?_
 refine qc (fun g1 hg1 => ?_)
 iterate 6 refine gx ?_
 refine qL (qA rfl) rfl enters81 rfl rfl (v := .agg ([int .i64 t, int .i64 l, int .i64 1, int .i64 f, int .i64 l, Value.bool (decide ((0 : Int) < (m : Int)))]).toArray) (fun w hs => describe1 t f l A m c w) ?_
 refine qZ (fun g2 hg2 => ?_)
 iterate 9 refine gx ?_
 refine qB (qA rfl) rfl (qR (qg rfl rfl rfl) (by decide)) ?_
 iterate 3 refine gx ?_
 refine qC [2, 3, 6] ?_
 refine qV rfl ?_
 iterate 9 refine gx ?_
 refine qP rfl (fun cl => ?_) (fun cl => ?_)
 ·iterate 8 refine gx ?_
  exact qJ rfl rfl (fun w hs => ⟨ret_i (by unfold codeV; (repeat' split) <;> first | rfl | (exfalso; (try unfold vld at *); omega)), ((hs.drop (by assumption)).drop (by assumption))⟩)
 ·iterate 3 refine gx ?_
  by_cases cm : (0 : Int) < (m : Int)
  ·refine qB (qA rfl) rfl (qS (qN rfl agg4 rfl (qU (i := 0) (ent := ⟨g2, 121, [int .i64 t, int .i64 l, int .i64 1, int .i64 f, int .i64 l, Value.bool (decide ((0 : Int) < (m : Int)))], 6⟩) (off := 5) rfl rfl (by exact rfl))) cm) ?_
   iterate 15 refine gx ?_
   refine qC [2, 15] ?_
   refine qb rfl ?_
   iterate 8 refine gx ?_
   exact qJ rfl rfl (fun w hs => ⟨ret_i (by unfold codeV; (repeat' split) <;> first | rfl | (exfalso; (try unfold vld at *); omega)), ((hs.drop (by assumption)).drop (by assumption))⟩)
  ·refine qB (qA rfl) rfl (qR (qN rfl agg4 rfl (qU (i := 0) (ent := ⟨g2, 121, [int .i64 t, int .i64 l, int .i64 1, int .i64 f, int .i64 l, Value.bool (decide ((0 : Int) < (m : Int)))], 6⟩) (off := 5) rfl rfl (by exact rfl))) cm) ?_
   iterate 2 refine gx ?_
   refine qB (qI rfl rfl rfl) rfl (qj rfl agg118 size118 rfl (vs := [int .i64 t, int .i64 l]) rfl (Row.part (i := 0) (ent := ⟨g2, 121, [int .i64 t, int .i64 l, int .i64 1, int .i64 f, int .i64 l, Value.bool (decide ((0 : Int) < (m : Int)))], 6⟩) rfl rfl rfl)) ?_
   by_cases ct : vld t l
   ·refine qL (qI rfl rfl rfl) rfl enters111 rfl rfl (v := .bool true) (fun w hs => (tvalid_c t l (by omega) (by omega) w).mono fun e w' h => by rw [decide_eq_true (p := vld t l) ct] at h; exact h) ?_
    iterate 4 refine gx ?_
    refine qB (qI rfl rfl rfl) rfl (qj rfl agg81 size81 rfl (vs := [int .i64 f, int .i64 l]) rfl (Row.part (i := 0) (ent := ⟨g2, 121, [int .i64 t, int .i64 l, int .i64 1, int .i64 f, int .i64 l, Value.bool (decide ((0 : Int) < (m : Int)))], 6⟩) rfl rfl rfl)) ?_
    by_cases cf : vld f l
    ·refine qL (qI rfl rfl rfl) rfl enters61 rfl rfl (v := .bool true) (fun w hs => (valid_c f l (by omega) (by omega) w).mono fun e w' h => by rw [decide_eq_true (p := vld f l) cf] at h; exact h) ?_
     iterate 5 refine gx ?_
     refine qC [2, 15] ?_
     refine qV rfl ?_
     iterate 9 refine gx ?_
     exact qJ rfl rfl (fun w hs => ⟨ret_i (by unfold codeV; (repeat' split) <;> first | rfl | (exfalso; (try unfold vld at *); omega)), ((hs.drop (by assumption)).drop (by assumption))⟩)
    ·refine qL (qI rfl rfl rfl) rfl enters61 rfl rfl (v := .bool false) (fun w hs => (valid_c f l (by omega) (by omega) w).mono fun e w' h => by rw [decide_eq_false (p := vld f l) cf] at h; exact h) ?_
     iterate 5 refine gx ?_
     refine qC [2, 15] ?_
     refine qb rfl ?_
     iterate 8 refine gx ?_
     exact qJ rfl rfl (fun w hs => ⟨ret_i (by unfold codeV; (repeat' split) <;> first | rfl | (exfalso; (try unfold vld at *); omega)), ((hs.drop (by assumption)).drop (by assumption))⟩)
   ·refine qL (qI rfl rfl rfl) rfl enters111 rfl rfl (v := .bool false) (fun w hs => (tvalid_c t l (by omega) (by omega) w).mono fun e w' h => by rw [decide_eq_false (p := vld t l) ct] at h; exact h) ?_
    iterate 11 refine gx ?_
    refine qC [2, 15] ?_
    refine qb rfl ?_
    iterate 8 refine gx ?_
    exact qJ rfl rfl (fun w hs => ⟨ret_i (by unfold codeV; (repeat' split) <;> first | rfl | (exfalso; (try unfold vld at *); omega)), ((hs.drop (by assumption)).drop (by assumption))⟩)
theorem check2 (t f l : Int) (A : Option Addr) (m c : Nat) (hmr : m ≤ 9223372036854775807) (bt : -9223372036854775808 ≤ t ∧ t ≤ 9223372036854775807) (bf : -9223372036854775808 ≤ f ∧ f ≤ 9223372036854775807) (bl : -9223372036854775808 ≤ l ∧ l ≤ 9223372036854775807) (w : World) : Calls Tryz.prog 87 #[.agg ([int .i64 2, int .i64 t, int .i64 f, int .i64 l, slice A m c]).toArray] w fun e w' => e = .returned (.int .i64 (codeV 2 t f l m)) ∧ St w [] w' := by
 refine qM (args := [.agg ([int .i64 2, int .i64 t, int .i64 f, int .i64 l, slice A m c]).toArray]) Tryz.func87 rfl Tryz.ntmps87 (by simp) ?_
 refine qC [0] ?_
 iterate 2 refine gx ?_
 refine qc (fun g1 hg1 => ?_)
 iterate 6 refine gx ?_
 refine qL (qA rfl) rfl enters81 rfl rfl (v := .agg ([int .i64 t, int .i64 (m : Int), int .i64 2, int .i64 0, int .i64 0, Value.bool (decide (¬ (f = 0 ∧ l = 0)))]).toArray) (fun w hs => describe2 t f l A m c w) ?_
 refine qZ (fun g2 hg2 => ?_)
 iterate 9 refine gx ?_
 refine qB (qA rfl) rfl (qR (qg rfl rfl rfl) (by decide)) ?_
 iterate 3 refine gx ?_
 refine qC [2, 3, 6] ?_
 refine qV rfl ?_
 iterate 9 refine gx ?_
 refine qP rfl (fun cl => ?_) (fun cl => ?_)
 ·iterate 8 refine gx ?_
  exact qJ rfl rfl (fun w hs => ⟨ret_i (by unfold codeV; (repeat' split) <;> first | rfl | (exfalso; (try unfold vld at *); omega)), ((hs.drop (by assumption)).drop (by assumption))⟩)
 ·iterate 3 refine gx ?_
  by_cases cm : ¬ (f = 0 ∧ l = 0)
  ·refine qB (qA rfl) rfl (qS (qN rfl agg4 rfl (qU (i := 0) (ent := ⟨g2, 121, [int .i64 t, int .i64 (m : Int), int .i64 2, int .i64 0, int .i64 0, Value.bool (decide (¬ (f = 0 ∧ l = 0)))], 6⟩) (off := 5) rfl rfl (by exact rfl))) cm) ?_
   iterate 15 refine gx ?_
   refine qC [2, 15] ?_
   refine qb rfl ?_
   iterate 8 refine gx ?_
   exact qJ rfl rfl (fun w hs => ⟨ret_i (by unfold codeV; (repeat' split) <;> first | rfl | (exfalso; (try unfold vld at *); omega)), ((hs.drop (by assumption)).drop (by assumption))⟩)
  ·refine qB (qA rfl) rfl (qR (qN rfl agg4 rfl (qU (i := 0) (ent := ⟨g2, 121, [int .i64 t, int .i64 (m : Int), int .i64 2, int .i64 0, int .i64 0, Value.bool (decide (¬ (f = 0 ∧ l = 0)))], 6⟩) (off := 5) rfl rfl (by exact rfl))) cm) ?_
   iterate 2 refine gx ?_
   refine qB (qI rfl rfl rfl) rfl (qj rfl agg118 size118 rfl (vs := [int .i64 t, int .i64 (m : Int)]) rfl (Row.part (i := 0) (ent := ⟨g2, 121, [int .i64 t, int .i64 (m : Int), int .i64 2, int .i64 0, int .i64 0, Value.bool (decide (¬ (f = 0 ∧ l = 0)))], 6⟩) rfl rfl rfl)) ?_
   by_cases ct : vld t (m : Int)
   ·refine qL (qI rfl rfl rfl) rfl enters111 rfl rfl (v := .bool true) (fun w hs => (tvalid_c t (m : Int) (by omega) (by omega) w).mono fun e w' h => by rw [decide_eq_true (p := vld t (m : Int)) ct] at h; exact h) ?_
    iterate 4 refine gx ?_
    refine qB (qI rfl rfl rfl) rfl (qj rfl agg81 size81 rfl (vs := [int .i64 0, int .i64 0]) rfl (Row.part (i := 0) (ent := ⟨g2, 121, [int .i64 t, int .i64 (m : Int), int .i64 2, int .i64 0, int .i64 0, Value.bool (decide (¬ (f = 0 ∧ l = 0)))], 6⟩) rfl rfl rfl)) ?_
    by_cases cf : vld 0 0
    ·refine qL (qI rfl rfl rfl) rfl enters61 rfl rfl (v := .bool true) (fun w hs => (valid_c 0 0 (by omega) (by omega) w).mono fun e w' h => by rw [decide_eq_true (p := vld 0 0) cf] at h; exact h) ?_
     iterate 5 refine gx ?_
     refine qC [2, 15] ?_
     refine qV rfl ?_
     iterate 9 refine gx ?_
     exact qJ rfl rfl (fun w hs => ⟨ret_i (by unfold codeV; (repeat' split) <;> first | rfl | (exfalso; (try unfold vld at *); omega)), ((hs.drop (by assumption)).drop (by assumption))⟩)
    ·refine qL (qI rfl rfl rfl) rfl enters61 rfl rfl (v := .bool false) (fun w hs => (valid_c 0 0 (by omega) (by omega) w).mono fun e w' h => by rw [decide_eq_false (p := vld 0 0) cf] at h; exact h) ?_
     iterate 5 refine gx ?_
     refine qC [2, 15] ?_
     refine qb rfl ?_
     iterate 8 refine gx ?_
     exact qJ rfl rfl (fun w hs => ⟨ret_i (by unfold codeV; (repeat' split) <;> first | rfl | (exfalso; (try unfold vld at *); omega)), ((hs.drop (by assumption)).drop (by assumption))⟩)
   ·refine qL (qI rfl rfl rfl) rfl enters111 rfl rfl (v := .bool false) (fun w hs => (tvalid_c t (m : Int) (by omega) (by omega) w).mono fun e w' h => by rw [decide_eq_false (p := vld t (m : Int)) ct] at h; exact h) ?_
    iterate 11 refine gx ?_
    refine qC [2, 15] ?_
    refine qb rfl ?_
    iterate 8 refine gx ?_
    exact qJ rfl rfl (fun w hs => ⟨ret_i (by unfold codeV; (repeat' split) <;> first | rfl | (exfalso; (try unfold vld at *); omega)), ((hs.drop (by assumption)).drop (by assumption))⟩)
theorem check0 (k t f l : Int) (A : Option Addr) (m c : Nat) (h1 : ¬ k = 1) (h2 : ¬ k = 2) (w : World) : Calls Tryz.prog 87 #[.agg ([int .i64 k, int .i64 t, int .i64 f, int .i64 l, slice A m c]).toArray] w fun e w' => e = .returned (.int .i64 (codeV k t f l m)) ∧ St w [] w' := by
 refine qM (args := [.agg ([int .i64 k, int .i64 t, int .i64 f, int .i64 l, slice A m c]).toArray]) Tryz.func87 rfl Tryz.ntmps87 (by simp) ?_
 refine qC [0] ?_
 iterate 2 refine gx ?_
 refine qc (fun g1 hg1 => ?_)
 iterate 6 refine gx ?_
 refine qL (qA rfl) rfl enters81 rfl rfl (v := .agg ([int .i64 0, int .i64 0, int .i64 0, int .i64 0, int .i64 0, Value.bool false]).toArray) (fun w hs => describe0 k t f l A m c h1 h2 w) ?_
 refine qZ (fun g2 hg2 => ?_)
 iterate 9 refine gx ?_
 refine qB (qA rfl) rfl (qS (qg rfl rfl rfl) rfl) ?_
 iterate 3 refine gx ?_
 refine qC [2, 3, 6] ?_
 refine qb rfl ?_
 iterate 8 refine gx ?_
 exact qJ rfl rfl (fun w hs => ⟨ret_i (by unfold codeV; (repeat' split) <;> first | rfl | (exfalso; (try unfold vld at *); omega)), ((hs.drop (by assumption)).drop (by assumption))⟩)
/-
 Contracts of package command: Target, Source, Overlaps, contains.
-/
theorem enters72 : Enters Tryz.prog 72 := ⟨_, Tryz.func72, by kernel_rfl, by kernel_rfl⟩
instance : AgY Tryz.prog 81 := ⟨agg81⟩
instance : Sli Tryz.prog 153 81 := ⟨Tryz.underlying153⟩
theorem ifmax (p q : Int) : (if p < q then q else p) = max p q := by omega
theorem ifmin (p q : Int) : (if q < p then q else p) = min p q := by omega
def inside_ (o l p n : Int) : Prop := o ≤ p ∧ p + n ≤ o + l
instance (o l p n : Int) : Decidable (inside_ o l p n) := by unfold inside_; infer_instance
def meets (o l p n : Int) : Prop := max o p < min (o + l) (p + n)
instance (o l p n : Int) : Decidable (meets o l p n) := by unfold meets; infer_instance
theorem target1 (t f l : Int) (A : Option Addr) (m c : Nat) (w : World) : Calls Tryz.prog 71 #[.agg ([int .i64 1, int .i64 t, int .i64 f, int .i64 l, slice A m c]).toArray] w fun e w' => e = .returned (.agg ([int .i64 t, int .i64 l]).toArray) ∧ St w [] w' := by
 refine qM (args := [.agg ([int .i64 1, int .i64 t, int .i64 f, int .i64 l, slice A m c]).toArray]) Tryz.func71 rfl Tryz.ntmps71 (by simp) ?_
 refine qC [0] ?_
 iterate 2 refine gx ?_
 refine qc (fun g1 hg1 => ?_)
 refine qZ (fun g2 hg2 => ?_)
 iterate 5 refine gx ?_
 refine qL (qA rfl) rfl enters81 rfl rfl (v := .agg ([int .i64 t, int .i64 l, int .i64 1, int .i64 f, int .i64 l, Value.bool (decide ((0 : Int) < (m : Int)))]).toArray) (fun w hs => describe1 t f l A m c w) ?_
 refine qB (qA rfl) rfl (Gets.fieldN rfl Tryz.underlying121 rfl rfl agg118 size118 (vs := [int .i64 t, int .i64 l]) rfl) ?_
 refine qL (qA rfl) rfl enters98 rfl rfl (v := .agg ([int .i64 t, int .i64 l]).toArray) (fun w hs => bytes_c t l w) ?_
 iterate 4 refine gx ?_
 exact qo rfl agg81 size81 rfl (vs := [int .i64 t, int .i64 l]) rfl (qW (i := 0) (ent := ⟨g2, 81, [int .i64 t, int .i64 l], 2⟩) rfl rfl rfl) (fun w hs => ⟨rfl, ((hs.drop (by assumption)).drop (by assumption))⟩)
theorem source1 (t f l : Int) (A : Option Addr) (m c : Nat) (w : World) : Calls Tryz.prog 49 #[.agg ([int .i64 1, int .i64 t, int .i64 f, int .i64 l, slice A m c]).toArray] w fun e w' => e = .returned (.tuple #[.agg ([int .i64 f, int .i64 l]).toArray, .bool true]) ∧ St w [] w' := by
 refine qM (args := [.agg ([int .i64 1, int .i64 t, int .i64 f, int .i64 l, slice A m c]).toArray]) Tryz.func49 rfl Tryz.ntmps49 (by simp) ?_
 refine qC [0] ?_
 iterate 2 refine gx ?_
 refine qc (fun g1 hg1 => ?_)
 refine qZ (fun g2 hg2 => ?_)
 iterate 6 refine gx ?_
 refine qL (qA rfl) rfl enters81 rfl rfl (v := .agg ([int .i64 t, int .i64 l, int .i64 1, int .i64 f, int .i64 l, Value.bool (decide ((0 : Int) < (m : Int)))]).toArray) (fun w hs => describe1 t f l A m c w) ?_
 refine qZ (fun g3 hg3 => ?_)
 iterate 4 refine gx ?_
 refine TC.mixS [⟨g3, 121, [int .i64 t, int .i64 l, int .i64 1, int .i64 f, int .i64 l, Value.bool (decide ((0 : Int) < (m : Int)))], 6⟩, ⟨g1, 54, [int .i64 1, int .i64 t, int .i64 f, int .i64 l, slice A m c], 5⟩] [⟨g2, 81, [int .i64 0, int .i64 0], 2⟩] (by kernel_rfl) [0, 1, 0, 1, 0, 4, 0] [0, 1, 2, 3, 4, 5, 6] [fun _ _ => True, fun _ _ => True, fun _ _ => True, fun _ _ => True, fun _ _ => True, fun _ _ => True, fun _ _ => True] (by kernel_rfl) (by kernel_rfl) (perm_pick (p := [0, 2, 1]) (by kernel_rfl) rfl) (qH (by assumption) qY) ?_
 refine gx ?_
 refine TR.gets (qA rfl) rfl (fun Z hZ => qj rfl agg81 size81 rfl (vs := [int .i64 f, int .i64 l]) rfl (Row.part (i := 0) (ent := ⟨g3, 121, [int .i64 t, int .i64 l, int .i64 1, int .i64 f, int .i64 l, Value.bool (decide ((0 : Int) < (m : Int)))], 6⟩) rfl rfl rfl)) ?_
 iterate 2 refine gx ?_
 refine TR.free (qA rfl) rfl (fun _ => qS (qg rfl rfl rfl) rfl) ?_
 refine TR.storeW (qA rfl) rfl rfl size81 rfl (vs := [int .i64 f, int .i64 l]) rfl rfl (by simp [Value.oneCell']) (i := 0) (ent := ⟨g2, 81, [int .i64 0, int .i64 0], 2⟩) rfl rfl rfl (D' := [⟨g2, 81, [int .i64 f, int .i64 l], 2⟩]) rfl (qH (by assumption) qY) ?_
 iterate 4 refine gx ?_
 exact TE.ret2C rfl agg81 size81 rfl rfl (vs := [int .i64 f, int .i64 l]) rfl (qW (i := 2) (ent := ⟨g2, 81, [int .i64 f, int .i64 l], 2⟩) rfl rfl rfl) (fun w hs => ⟨rfl, (((hs.drop (by assumption)).drop (by assumption)).drop (by assumption))⟩)
theorem target2 (t f l : Int) (A : Option Addr) (m c : Nat) (w : World) : Calls Tryz.prog 71 #[.agg ([int .i64 2, int .i64 t, int .i64 f, int .i64 l, slice A m c]).toArray] w fun e w' => e = .returned (.agg ([int .i64 t, int .i64 (m : Int)]).toArray) ∧ St w [] w' := by
 refine qM (args := [.agg ([int .i64 2, int .i64 t, int .i64 f, int .i64 l, slice A m c]).toArray]) Tryz.func71 rfl Tryz.ntmps71 (by simp) ?_
 refine qC [0] ?_
 iterate 2 refine gx ?_
 refine qc (fun g1 hg1 => ?_)
 refine qZ (fun g2 hg2 => ?_)
 iterate 5 refine gx ?_
 refine qL (qA rfl) rfl enters81 rfl rfl (v := .agg ([int .i64 t, int .i64 (m : Int), int .i64 2, int .i64 0, int .i64 0, Value.bool (decide (¬ (f = 0 ∧ l = 0)))]).toArray) (fun w hs => describe2 t f l A m c w) ?_
 refine qB (qA rfl) rfl (Gets.fieldN rfl Tryz.underlying121 rfl rfl agg118 size118 (vs := [int .i64 t, int .i64 (m : Int)]) rfl) ?_
 refine qL (qA rfl) rfl enters98 rfl rfl (v := .agg ([int .i64 t, int .i64 (m : Int)]).toArray) (fun w hs => bytes_c t (m : Int) w) ?_
 iterate 4 refine gx ?_
 exact qo rfl agg81 size81 rfl (vs := [int .i64 t, int .i64 (m : Int)]) rfl (qW (i := 0) (ent := ⟨g2, 81, [int .i64 t, int .i64 (m : Int)], 2⟩) rfl rfl rfl) (fun w hs => ⟨rfl, ((hs.drop (by assumption)).drop (by assumption))⟩)
theorem source2 (t f l : Int) (A : Option Addr) (m c : Nat) (w : World) : Calls Tryz.prog 49 #[.agg ([int .i64 2, int .i64 t, int .i64 f, int .i64 l, slice A m c]).toArray] w fun e w' => e = .returned (.tuple #[.agg ([int .i64 0, int .i64 0]).toArray, .bool false]) ∧ St w [] w' := by
 refine qM (args := [.agg ([int .i64 2, int .i64 t, int .i64 f, int .i64 l, slice A m c]).toArray]) Tryz.func49 rfl Tryz.ntmps49 (by simp) ?_
 refine qC [0] ?_
 iterate 2 refine gx ?_
 refine qc (fun g1 hg1 => ?_)
 refine qZ (fun g2 hg2 => ?_)
 iterate 6 refine gx ?_
 refine qL (qA rfl) rfl enters81 rfl rfl (v := .agg ([int .i64 t, int .i64 (m : Int), int .i64 2, int .i64 0, int .i64 0, Value.bool (decide (¬ (f = 0 ∧ l = 0)))]).toArray) (fun w hs => describe2 t f l A m c w) ?_
 refine qZ (fun g3 hg3 => ?_)
 iterate 4 refine gx ?_
 refine TC.mixS [⟨g3, 121, [int .i64 t, int .i64 (m : Int), int .i64 2, int .i64 0, int .i64 0, Value.bool (decide (¬ (f = 0 ∧ l = 0)))], 6⟩, ⟨g1, 54, [int .i64 2, int .i64 t, int .i64 f, int .i64 l, slice A m c], 5⟩] [⟨g2, 81, [int .i64 0, int .i64 0], 2⟩] (by kernel_rfl) [0, 1, 0, 1, 0, 4, 0] [0, 1, 2, 3, 4, 5, 6] [fun _ _ => True, fun _ _ => True, fun _ _ => True, fun _ _ => True, fun _ _ => True, fun _ _ => True, fun _ _ => True] (by kernel_rfl) (by kernel_rfl) (perm_pick (p := [0, 2, 1]) (by kernel_rfl) rfl) (qH (by assumption) qY) ?_
 refine gx ?_
 refine TR.gets (qA rfl) rfl (fun Z hZ => qj rfl agg81 size81 rfl (vs := [int .i64 0, int .i64 0]) rfl (Row.part (i := 0) (ent := ⟨g3, 121, [int .i64 t, int .i64 (m : Int), int .i64 2, int .i64 0, int .i64 0, Value.bool (decide (¬ (f = 0 ∧ l = 0)))], 6⟩) rfl rfl rfl)) ?_
 iterate 2 refine gx ?_
 refine TR.free (qA rfl) rfl (fun _ => qR (qg rfl rfl rfl) (by decide)) ?_
 refine TR.storeW (qA rfl) rfl rfl size81 rfl (vs := [int .i64 0, int .i64 0]) rfl rfl (by simp [Value.oneCell']) (i := 0) (ent := ⟨g2, 81, [int .i64 0, int .i64 0], 2⟩) rfl rfl rfl (D' := [⟨g2, 81, [int .i64 0, int .i64 0], 2⟩]) rfl (qH (by assumption) qY) ?_
 iterate 4 refine gx ?_
 exact TE.ret2C rfl agg81 size81 rfl rfl (vs := [int .i64 0, int .i64 0]) rfl (qW (i := 2) (ent := ⟨g2, 81, [int .i64 0, int .i64 0], 2⟩) rfl rfl rfl) (fun w hs => ⟨rfl, (((hs.drop (by assumption)).drop (by assumption)).drop (by assumption))⟩)
theorem contains1 {w : World} (o l p n : Int) (ho : -9223372036854775808 ≤ o + l ∧ o + l ≤ 9223372036854775807) (hp : -9223372036854775808 ≤ p + n ∧ p + n ≤ 9223372036854775807) (b : Nat) (hb : b < w.heap.size) (hrow : ∀ (j : Nat) (u : Value), [int .i64 p, int .i64 n][j]? = some u → w.cell? ⟨b, 0 + j, none⟩ = some u) : Calls Tryz.prog 88 #[.agg ([int .i64 o, int .i64 l]).toArray, .slice (some ⟨b, 0, none⟩) 1 1] w fun e w' => e = .returned (.bool (decide (inside_ o l p n))) ∧ St w [] w' := by
 refine qM (args := [.agg ([int .i64 o, int .i64 l]).toArray, .slice (some ⟨b, 0, none⟩) 1 1]) Tryz.func88 rfl Tryz.ntmps88 (by simp) ?_
 refine qC [0, 1] ?_
 iterate 2 refine gx ?_
 refine qc (fun g1 hg1 => ?_)
 iterate 12 refine gx ?_
 refine qp (ι := Nat) (fun i => [(2, .pointer (some ⟨g1, 0, none⟩)), (7, .slice (some ⟨b, 0, none⟩) 1 1), (8, .int .i64 1), (9, .int .i64 (i : Int))]) (fun i => [⟨g1, 81, [int .i64 o, int .i64 l], 2⟩]) (fun i => 1 - i) (fun i => i ≤ 1 ∧ (i = 1 → inside_ o l p n)) 0 ⟨by omega, by intro h; cases h⟩ (qK (i := 2) rfl (qT (i := 7) rfl rfl (by first | omega | (dsimp only; omega) | rfl) (by first | omega | (dsimp only; omega) | rfl) (qF (i := 8) rfl (by first | omega | rfl) (qF (i := 9) rfl (by first | omega | rfl) (qO))))) (fun w h => h) (fun i hC0 => ?_)
 obtain ⟨hC0, hC1⟩ := hC0
 iterate 6 refine gx ?_
 refine qP rfl (fun hq0 => ?_) (fun hq0 => ?_)
 ·obtain rfl : i = 0 := by omega
  iterate 6 refine gx ?_
  refine qB (qA rfl) rfl (qe rfl Tryz.underlying153 size81 rfl rfl (i := 0) (by rfl) (by omega) (off' := 0) (by omega)) ?_
  refine qB (qA rfl) rfl (qj rfl agg81 size81 rfl rfl (Row.old hrow hb (qD (by show g1 ≠ b; omega) qE))) ?_
  refine qZ (fun g2 hg2 => ?_)
  iterate 4 refine gx ?_
  refine qs (by kernel_rfl) [0, 1, 0, 1, 0, 0, 1, 1, 1, 1, 0, 0] rfl (by kernel_rfl) ?_
  iterate 4 refine gx ?_
  by_cases c1 : p < o
  ·refine qG (qA rfl) rfl (fun _ => qS (qm rfl rfl rfl) c1) ?_
   refine gx ?_
   refine ql rfl rfl rfl rfl rfl ?_
   refine ql rfl rfl rfl rfl rfl ?_
   refine ql rfl rfl rfl rfl rfl ?_
   refine ql rfl rfl rfl rfl rfl ?_
   refine qk rfl rfl rfl rfl rfl ?_
   iterate 3 refine gx ?_
   refine qC [2, 7, 8, 9, 24] ?_
   refine qb rfl ?_
   iterate 11 refine gx ?_
   exact qJ rfl rfl (fun w hs => ⟨dec_f (by unfold inside_ at *; omega), ((hs.drop (by assumption)).drop (by assumption))⟩)
  ·refine qG (qA rfl) rfl (fun _ => qR (qm rfl rfl rfl) c1) ?_
   iterate 2 refine gx ?_
   refine qz (qI rfl rfl rfl) rfl enters72 rfl rfl (v := .int .i64 (p + n)) (fun w hs => end_c p n (by omega) w) ?_
   refine gx ?_
   refine qz (qI rfl rfl rfl) rfl enters72 rfl rfl (v := .int .i64 (o + l)) (fun w hs => end_c o l (by omega) w) ?_
   by_cases c2 : (o + l) < (p + n)
   ·refine qG (qI rfl rfl rfl) rfl (fun _ => qS (zA rfl rfl rfl) c2) ?_
    iterate 3 refine gx ?_
    refine qC [2, 7, 8, 9, 24] ?_
    refine qb rfl ?_
    iterate 11 refine gx ?_
    exact qJ rfl rfl (fun w hs => ⟨dec_f (by unfold inside_ at *; omega), ((hs.drop (by assumption)).drop (by assumption))⟩)
   ·refine qG (qI rfl rfl rfl) rfl (fun _ => qR (zA rfl rfl rfl) c2) ?_
    iterate 3 refine gx ?_
    refine qC [2, 7, 8, 9, 24] ?_
    refine qV rfl ?_
    iterate 4 refine gx ?_
    refine qB (qA rfl) rfl (qQ rfl rfl rfl (r := 1) (w64 (by omega) (by omega))) ?_
    iterate 2 refine gx ?_
    exact qd 1 (by omega) ⟨Nat.le_refl _, fun _ => by unfold inside_; omega⟩ (qK (i := 2) rfl (qT (i := 7) rfl rfl (by first | omega | (dsimp only; omega) | rfl) (by first | omega | (dsimp only; omega) | rfl) (qF (i := 8) rfl (by first | omega | rfl) (qF (i := 9) rfl (by first | omega | rfl) (qO))))) (fun w h => h.drop (by assumption))
 ·have hin := hC1 (by omega)
  iterate 11 refine gx ?_
  exact qJ rfl rfl (fun w hs => ⟨dec_t (by unfold inside_ at *; omega), (hs.drop (by assumption))⟩)
theorem lies_row0 {w : World} {g t tot : Nat} {vs : List Value} (h : Ent.lies ⟨g, t, vs, tot⟩ w) (j : Nat) (u : Value) (hu : vs[j]? = some u) : w.cell? ⟨g, 0 + j, none⟩ = some u := by
 have h2 : (vs ++ [])[j]? = some u := by simpa using hu
 rw [Nat.zero_add]
 exact h.cell hu
theorem enters108 : Enters Tryz.prog 108 := ⟨_, Tryz.func108, by kernel_rfl, by kernel_rfl⟩
theorem enters109 : Enters Tryz.prog 109 := ⟨_, Tryz.func109, by kernel_rfl, by kernel_rfl⟩
theorem enters54 : Enters Tryz.prog 54 := ⟨_, Tryz.func54, by kernel_rfl, by kernel_rfl⟩
theorem enters84 : Enters Tryz.prog 84 := ⟨_, Tryz.func84, by kernel_rfl, by kernel_rfl⟩
theorem rlen1 (t f l : Int) (A : Option Addr) (m c : Nat) (w : World) : Calls Tryz.prog 84 #[.agg ([int .i64 1, int .i64 t, int .i64 f, int .i64 l, slice A m c]).toArray] w fun e w' => e = .returned (.int .i64 l) ∧ St w [] w' := by
 refine qM (args := [.agg ([int .i64 1, int .i64 t, int .i64 f, int .i64 l, slice A m c]).toArray]) Tryz.func84 rfl Tryz.ntmps84 (by simp) ?_
 refine qC [0] ?_
 iterate 2 refine gx ?_
 refine qc (fun g1 hg1 => ?_)
 iterate 8 refine gx ?_
 refine qB (qA rfl) rfl (qS (qg rfl rfl rfl) rfl) ?_
 iterate 2 refine gx ?_
 refine qb rfl ?_
 iterate 9 refine gx ?_
 exact qJ rfl rfl (fun w hs => ⟨ret_i (rfl), (hs.drop (by assumption))⟩)
theorem rlen2 (k t f l : Int) (A : Option Addr) (m c : Nat) (h1 : ¬ k = 1) (w : World) : Calls Tryz.prog 84 #[.agg ([int .i64 k, int .i64 t, int .i64 f, int .i64 l, slice A m c]).toArray] w fun e w' => e = .returned (.int .i64 (m : Int)) ∧ St w [] w' := by
 refine qM (args := [.agg ([int .i64 k, int .i64 t, int .i64 f, int .i64 l, slice A m c]).toArray]) Tryz.func84 rfl Tryz.ntmps84 (by simp) ?_
 refine qC [0] ?_
 iterate 2 refine gx ?_
 refine qc (fun g1 hg1 => ?_)
 iterate 8 refine gx ?_
 refine qB (qA rfl) rfl (qR (qg rfl rfl rfl) h1) ?_
 iterate 2 refine gx ?_
 refine qV rfl ?_
 iterate 11 refine gx ?_
 exact qJ rfl rfl (fun w hs => ⟨ret_i (rfl), (hs.drop (by assumption))⟩)
theorem rtarget1 (t f l : Int) (A : Option Addr) (m c : Nat) (w : World) : Calls Tryz.prog 54 #[.agg ([int .i64 1, int .i64 t, int .i64 f, int .i64 l, slice A m c]).toArray] w fun e w' => e = .returned (.agg ([int .i64 t, int .i64 l]).toArray) ∧ St w [] w' := by
 refine qM (args := [.agg ([int .i64 1, int .i64 t, int .i64 f, int .i64 l, slice A m c]).toArray]) Tryz.func54 rfl Tryz.ntmps54 (by simp) ?_
 refine qC [0] ?_
 iterate 2 refine gx ?_
 refine qc (fun g1 hg1 => ?_)
 refine qZ (fun g2 hg2 => ?_)
 iterate 3 refine gx ?_
 refine TC.mixS [⟨g1, 54, [int .i64 1, int .i64 t, int .i64 f, int .i64 l, slice A m c], 5⟩] [⟨g2, 81, [int .i64 0, int .i64 0], 2⟩] (by kernel_rfl) [0, 1, 1, 1, 0, 4] [0, 1, 2, 3, 4, 5] [fun _ _ => True, fun _ _ => True, fun _ _ => True, fun _ _ => True, fun _ _ => True, fun _ _ => True] (by kernel_rfl) (by kernel_rfl) (perm_pick (p := [1, 0]) (by kernel_rfl) rfl) (qH (by assumption) qY) ?_
 iterate 3 refine gx ?_
 refine TR.call0 (qA rfl) rfl enters84 rfl rfl (v := .int .i64 l) (fun Z w hZ hs => rlen1 t f l A m c w) ?_
 refine TR.free (qA rfl) rfl (fun _ => qq rfl (vs := [(0, int .i64 t), (1, int .i64 l)]) rfl (fun w => by first | rfl | kernel_rfl) (v := .agg ([int .i64 t, int .i64 l]).toArray)) ?_
 refine TR.storeW (qA rfl) rfl rfl size81 rfl (vs := [int .i64 t, int .i64 l]) rfl rfl (by simp [Value.oneCell']) (i := 0) (ent := ⟨g2, 81, [int .i64 0, int .i64 0], 2⟩) rfl rfl rfl (D' := [⟨g2, 81, [int .i64 t, int .i64 l], 2⟩]) rfl (qH (by assumption) qY) ?_
 iterate 3 refine gx ?_
 exact qo rfl agg81 size81 rfl (vs := [int .i64 t, int .i64 l]) rfl (qW (i := 1) (ent := ⟨g2, 81, [int .i64 t, int .i64 l], 2⟩) rfl rfl rfl) (fun w hs => ⟨rfl, ((hs.drop (by assumption)).drop (by assumption))⟩)
theorem rtarget2 (k t f l : Int) (A : Option Addr) (m c : Nat) (h1 : ¬ k = 1) (w : World) : Calls Tryz.prog 54 #[.agg ([int .i64 k, int .i64 t, int .i64 f, int .i64 l, slice A m c]).toArray] w fun e w' => e = .returned (.agg ([int .i64 t, int .i64 (m : Int)]).toArray) ∧ St w [] w' := by
 refine qM (args := [.agg ([int .i64 k, int .i64 t, int .i64 f, int .i64 l, slice A m c]).toArray]) Tryz.func54 rfl Tryz.ntmps54 (by simp) ?_
 refine qC [0] ?_
 iterate 2 refine gx ?_
 refine qc (fun g1 hg1 => ?_)
 refine qZ (fun g2 hg2 => ?_)
 iterate 3 refine gx ?_
 refine TC.mixS [⟨g1, 54, [int .i64 k, int .i64 t, int .i64 f, int .i64 l, slice A m c], 5⟩] [⟨g2, 81, [int .i64 0, int .i64 0], 2⟩] (by kernel_rfl) [0, 1, 1, 1, 0, 4] [0, 1, 2, 3, 4, 5] [fun _ _ => True, fun _ _ => True, fun _ _ => True, fun _ _ => True, fun _ _ => True, fun _ _ => True] (by kernel_rfl) (by kernel_rfl) (perm_pick (p := [1, 0]) (by kernel_rfl) rfl) (qH (by assumption) qY) ?_
 iterate 3 refine gx ?_
 refine TR.call0 (qA rfl) rfl enters84 rfl rfl (v := .int .i64 (m : Int)) (fun Z w hZ hs => rlen2 k t f l A m c (by omega) w) ?_
 refine TR.free (qA rfl) rfl (fun _ => qq rfl (vs := [(0, int .i64 t), (1, int .i64 (m : Int))]) rfl (fun w => by first | rfl | kernel_rfl) (v := .agg ([int .i64 t, int .i64 (m : Int)]).toArray)) ?_
 refine TR.storeW (qA rfl) rfl rfl size81 rfl (vs := [int .i64 t, int .i64 (m : Int)]) rfl rfl (by simp [Value.oneCell']) (i := 0) (ent := ⟨g2, 81, [int .i64 0, int .i64 0], 2⟩) rfl rfl rfl (D' := [⟨g2, 81, [int .i64 t, int .i64 (m : Int)], 2⟩]) rfl (qH (by assumption) qY) ?_
 iterate 3 refine gx ?_
 exact qo rfl agg81 size81 rfl (vs := [int .i64 t, int .i64 (m : Int)]) rfl (qW (i := 1) (ent := ⟨g2, 81, [int .i64 t, int .i64 (m : Int)], 2⟩) rfl rfl rfl) (fun w hs => ⟨rfl, ((hs.drop (by assumption)).drop (by assumption))⟩)
theorem rsource_c (k t f l : Int) (A : Option Addr) (m c : Nat) (w : World) : Calls Tryz.prog 109 #[.agg ([int .i64 k, int .i64 t, int .i64 f, int .i64 l, slice A m c]).toArray] w fun e w' => e = .returned (.agg ([int .i64 f, int .i64 l]).toArray) ∧ St w [] w' := by
 refine qM (args := [.agg ([int .i64 k, int .i64 t, int .i64 f, int .i64 l, slice A m c]).toArray]) Tryz.func109 rfl Tryz.ntmps109 (by simp) ?_
 refine qC [0] ?_
 iterate 2 refine gx ?_
 refine qc (fun g1 hg1 => ?_)
 refine qZ (fun g2 hg2 => ?_)
 iterate 8 refine gx ?_
 refine qB (qA rfl) rfl (qq rfl (vs := [(0, int .i64 f), (1, int .i64 l)]) rfl (fun w => by first | rfl | kernel_rfl) (v := .agg ([int .i64 f, int .i64 l]).toArray)) ?_
 iterate 4 refine gx ?_
 exact qo rfl agg81 size81 rfl (vs := [int .i64 f, int .i64 l]) rfl (qW (i := 0) (ent := ⟨g2, 81, [int .i64 f, int .i64 l], 2⟩) rfl rfl rfl) (fun w hs => ⟨rfl, ((hs.drop (by assumption)).drop (by assumption))⟩)
theorem rcheck1 (t f l : Int) (A : Option Addr) (m c : Nat) (bt : -9223372036854775808 ≤ t ∧ t ≤ 9223372036854775807) (bf : -9223372036854775808 ≤ f ∧ f ≤ 9223372036854775807) (bl : -9223372036854775808 ≤ l ∧ l ≤ 9223372036854775807) (w : World) : Calls Tryz.prog 83 #[.agg ([int .i64 1, int .i64 t, int .i64 f, int .i64 l, slice A m c]).toArray] w fun e w' => e = .returned (.int .i64 (codeV 1 t f l m)) ∧ St w [] w' := by
 refine qM (args := [.agg ([int .i64 1, int .i64 t, int .i64 f, int .i64 l, slice A m c]).toArray]) Tryz.func83 rfl Tryz.ntmps83 (by simp) ?_
 refine qC [0] ?_
 iterate 2 refine gx ?_
 refine qc (fun g1 hg1 => ?_)
 iterate 8 refine gx ?_
 refine qB (qA rfl) rfl (qR (Gets.neq rfl rfl rfl) (by decide)) ?_
 iterate 7 refine gx ?_
 refine qC [1, 2, 10] ?_
 refine qV rfl ?_
 iterate 6 refine gx ?_
 refine qL (qA rfl) rfl enters84 rfl rfl (v := .int .i64 l) (fun w hs => rlen1 t f l A m c w) ?_
 iterate 3 refine gx ?_
 refine qP rfl (fun c0 => ?_) (fun c0 => ?_)
 ·iterate 7 refine gx ?_
  exact qJ rfl rfl (fun w hs => ⟨ret_i (by unfold codeV; (repeat' split) <;> first | rfl | (exfalso; (try unfold vld at *); omega)), (hs.drop (by assumption))⟩)
 ·iterate 6 refine gx ?_
  refine qL (qA rfl) rfl enters54 rfl rfl (v := .agg ([int .i64 t, int .i64 l]).toArray) (fun w hs => rtarget1 t f l A m c w) ?_
  by_cases ct : vld t l
  ·refine qL (qA rfl) rfl enters108 rfl rfl (v := .bool true) (fun w hs => (rvalid_c t l (by omega) (by omega) w).mono fun e w' h => by rw [decide_eq_true (p := vld t l) ct] at h; exact h) ?_
   iterate 3 refine gx ?_
   refine qC [1, 2, 17] ?_
   refine qV rfl ?_
   iterate 7 refine gx ?_
   refine qB (qA rfl) rfl (qS (qg rfl rfl rfl) rfl) ?_
   iterate 4 refine gx ?_
   by_cases cm : 0 < (m : Int)
   ·refine qB (qI rfl rfl rfl) rfl (qS (zA rfl rfl rfl) cm) ?_
    iterate 9 refine gx ?_
    refine qC [1, 2, 32] ?_
    refine qb rfl ?_
    iterate 7 refine gx ?_
    exact qJ rfl rfl (fun w hs => ⟨ret_i (by unfold codeV; (repeat' split) <;> first | rfl | (exfalso; (try unfold vld at *); omega)), (hs.drop (by assumption))⟩)
   ·refine qB (qI rfl rfl rfl) rfl (qR (zA rfl rfl rfl) cm) ?_
    iterate 2 refine gx ?_
    refine qL (qI rfl rfl rfl) rfl enters109 rfl rfl (v := .agg ([int .i64 f, int .i64 l]).toArray) (fun w hs => rsource_c 1 t f l A m c w) ?_
    by_cases cf : vld f l
    ·refine qL (qI rfl rfl rfl) rfl enters108 rfl rfl (v := .bool true) (fun w hs => (rvalid_c f l (by omega) (by omega) w).mono fun e w' h => by rw [decide_eq_true (p := vld f l) cf] at h; exact h) ?_
     iterate 5 refine gx ?_
     refine qC [1, 2, 32] ?_
     refine qV rfl ?_
     iterate 7 refine gx ?_
     refine qB (qA rfl) rfl (qR (qg rfl rfl rfl) (by decide)) ?_
     iterate 12 refine gx ?_
     refine qC [2, 45] ?_
     refine qV rfl ?_
     iterate 8 refine gx ?_
     exact qJ rfl rfl (fun w hs => ⟨ret_i (by unfold codeV; (repeat' split) <;> first | rfl | (exfalso; (try unfold vld at *); omega)), (hs.drop (by assumption))⟩)
    ·refine qL (qI rfl rfl rfl) rfl enters108 rfl rfl (v := .bool false) (fun w hs => (rvalid_c f l (by omega) (by omega) w).mono fun e w' h => by rw [decide_eq_false (p := vld f l) cf] at h; exact h) ?_
     iterate 5 refine gx ?_
     refine qC [1, 2, 32] ?_
     refine qb rfl ?_
     iterate 7 refine gx ?_
     exact qJ rfl rfl (fun w hs => ⟨ret_i (by unfold codeV; (repeat' split) <;> first | rfl | (exfalso; (try unfold vld at *); omega)), (hs.drop (by assumption))⟩)
  ·refine qL (qA rfl) rfl enters108 rfl rfl (v := .bool false) (fun w hs => (rvalid_c t l (by omega) (by omega) w).mono fun e w' h => by rw [decide_eq_false (p := vld t l) ct] at h; exact h) ?_
   iterate 3 refine gx ?_
   refine qC [1, 2, 17] ?_
   refine qb rfl ?_
   iterate 7 refine gx ?_
   exact qJ rfl rfl (fun w hs => ⟨ret_i (by unfold codeV; (repeat' split) <;> first | rfl | (exfalso; (try unfold vld at *); omega)), (hs.drop (by assumption))⟩)
theorem rcheck2 (t f l : Int) (A : Option Addr) (m c : Nat) (hmr : m ≤ 9223372036854775807) (bt : -9223372036854775808 ≤ t ∧ t ≤ 9223372036854775807) (bf : -9223372036854775808 ≤ f ∧ f ≤ 9223372036854775807) (bl : -9223372036854775808 ≤ l ∧ l ≤ 9223372036854775807) (w : World) : Calls Tryz.prog 83 #[.agg ([int .i64 2, int .i64 t, int .i64 f, int .i64 l, slice A m c]).toArray] w fun e w' => e = .returned (.int .i64 (codeV 2 t f l m)) ∧ St w [] w' := by
 refine qM (args := [.agg ([int .i64 2, int .i64 t, int .i64 f, int .i64 l, slice A m c]).toArray]) Tryz.func83 rfl Tryz.ntmps83 (by simp) ?_
 refine qC [0] ?_
 iterate 2 refine gx ?_
 refine qc (fun g1 hg1 => ?_)
 iterate 8 refine gx ?_
 refine qB (qA rfl) rfl (qS (Gets.neq rfl rfl rfl) (by decide)) ?_
 iterate 3 refine gx ?_
 refine qB (qI rfl rfl rfl) rfl (qR (Gets.neq rfl rfl rfl) (by decide)) ?_
 iterate 3 refine gx ?_
 refine qC [1, 2, 10] ?_
 refine qV rfl ?_
 iterate 6 refine gx ?_
 refine qL (qA rfl) rfl enters84 rfl rfl (v := .int .i64 (m : Int)) (fun w hs => rlen2 2 t f l A m c (by omega) w) ?_
 iterate 3 refine gx ?_
 refine qP rfl (fun c0 => ?_) (fun c0 => ?_)
 ·iterate 7 refine gx ?_
  exact qJ rfl rfl (fun w hs => ⟨ret_i (by unfold codeV; (repeat' split) <;> first | rfl | (exfalso; (try unfold vld at *); omega)), (hs.drop (by assumption))⟩)
 ·iterate 6 refine gx ?_
  refine qL (qA rfl) rfl enters54 rfl rfl (v := .agg ([int .i64 t, int .i64 (m : Int)]).toArray) (fun w hs => rtarget2 2 t f l A m c (by omega) w) ?_
  by_cases ct : vld t (m : Int)
  ·refine qL (qA rfl) rfl enters108 rfl rfl (v := .bool true) (fun w hs => (rvalid_c t (m : Int) (by omega) (by omega) w).mono fun e w' h => by rw [decide_eq_true (p := vld t (m : Int)) ct] at h; exact h) ?_
   iterate 3 refine gx ?_
   refine qC [1, 2, 17] ?_
   refine qV rfl ?_
   iterate 7 refine gx ?_
   refine qB (qA rfl) rfl (qR (qg rfl rfl rfl) (by decide)) ?_
   iterate 14 refine gx ?_
   refine qC [1, 2, 32] ?_
   refine qV rfl ?_
   iterate 7 refine gx ?_
   refine qB (qA rfl) rfl (qS (qg rfl rfl rfl) rfl) ?_
   iterate 3 refine gx ?_
   by_cases cf : f ≠ 0
   ·refine qB (qI rfl rfl rfl) rfl (qS (Gets.neq rfl rfl rfl) cf) ?_
    iterate 8 refine gx ?_
    refine qC [2, 45] ?_
    refine qb rfl ?_
    iterate 7 refine gx ?_
    exact qJ rfl rfl (fun w hs => ⟨ret_i (by unfold codeV; (repeat' split) <;> first | rfl | (exfalso; (try unfold vld at *); omega)), (hs.drop (by assumption))⟩)
   ·refine qB (qI rfl rfl rfl) rfl (qR (Gets.neq rfl rfl rfl) cf) ?_
    iterate 3 refine gx ?_
    by_cases cl : l ≠ 0
    ·refine qB (qI rfl rfl rfl) rfl (qS (Gets.neq rfl rfl rfl) cl) ?_
     iterate 4 refine gx ?_
     refine qC [2, 45] ?_
     refine qb rfl ?_
     iterate 7 refine gx ?_
     exact qJ rfl rfl (fun w hs => ⟨ret_i (by unfold codeV; (repeat' split) <;> first | rfl | (exfalso; (try unfold vld at *); omega)), (hs.drop (by assumption))⟩)
    ·refine qB (qI rfl rfl rfl) rfl (qR (Gets.neq rfl rfl rfl) cl) ?_
     iterate 4 refine gx ?_
     refine qC [2, 45] ?_
     refine qV rfl ?_
     iterate 8 refine gx ?_
     exact qJ rfl rfl (fun w hs => ⟨ret_i (by unfold codeV; (repeat' split) <;> first | rfl | (exfalso; (try unfold vld at *); omega)), (hs.drop (by assumption))⟩)
  ·refine qL (qA rfl) rfl enters108 rfl rfl (v := .bool false) (fun w hs => (rvalid_c t (m : Int) (by omega) (by omega) w).mono fun e w' h => by rw [decide_eq_false (p := vld t (m : Int)) ct] at h; exact h) ?_
   iterate 3 refine gx ?_
   refine qC [1, 2, 17] ?_
   refine qb rfl ?_
   iterate 7 refine gx ?_
   exact qJ rfl rfl (fun w hs => ⟨ret_i (by unfold codeV; (repeat' split) <;> first | rfl | (exfalso; (try unfold vld at *); omega)), (hs.drop (by assumption))⟩)
theorem rcheck0 (k t f l : Int) (A : Option Addr) (m c : Nat) (h1 : ¬ k = 1) (h2 : ¬ k = 2) (w : World) : Calls Tryz.prog 83 #[.agg ([int .i64 k, int .i64 t, int .i64 f, int .i64 l, slice A m c]).toArray] w fun e w' => e = .returned (.int .i64 (codeV k t f l m)) ∧ St w [] w' := by
 refine qM (args := [.agg ([int .i64 k, int .i64 t, int .i64 f, int .i64 l, slice A m c]).toArray]) Tryz.func83 rfl Tryz.ntmps83 (by simp) ?_
 refine qC [0] ?_
 iterate 2 refine gx ?_
 refine qc (fun g1 hg1 => ?_)
 iterate 8 refine gx ?_
 refine qB (qA rfl) rfl (qS (Gets.neq rfl rfl rfl) h1) ?_
 iterate 3 refine gx ?_
 refine qB (qI rfl rfl rfl) rfl (qS (Gets.neq rfl rfl rfl) h2) ?_
 iterate 3 refine gx ?_
 refine qC [1, 2, 10] ?_
 refine qb rfl ?_
 iterate 7 refine gx ?_
 exact qJ rfl rfl (fun w hs => ⟨ret_i (by unfold codeV; (repeat' split) <;> first | rfl | (exfalso; (try unfold vld at *); omega)), (hs.drop (by assumption))⟩)
theorem check_c (k t f l : Int) (A : Option Addr) (m c : Nat) (hmr : m ≤ 9223372036854775807) (bt : -9223372036854775808 ≤ t ∧ t ≤ 9223372036854775807) (bf : -9223372036854775808 ≤ f ∧ f ≤ 9223372036854775807) (bl : -9223372036854775808 ≤ l ∧ l ≤ 9223372036854775807) (w : World) : Calls Tryz.prog 87 #[.agg ([int .i64 k, int .i64 t, int .i64 f, int .i64 l, slice A m c]).toArray] w fun e w' => e = .returned (.int .i64 (codeV k t f l m)) ∧ St w [] w' := by
 by_cases h1 : k = 1
 ·subst h1; exact check1 t f l A m c bt bf bl w
 by_cases h2 : k = 2
 ·subst h2; exact check2 t f l A m c hmr bt bf bl w
 ·exact check0 k t f l A m c h1 h2 w
theorem rcheck_c (k t f l : Int) (A : Option Addr) (m c : Nat) (hmr : m ≤ 9223372036854775807) (bt : -9223372036854775808 ≤ t ∧ t ≤ 9223372036854775807) (bf : -9223372036854775808 ≤ f ∧ f ≤ 9223372036854775807) (bl : -9223372036854775808 ≤ l ∧ l ≤ 9223372036854775807) (w : World) : Calls Tryz.prog 83 #[.agg ([int .i64 k, int .i64 t, int .i64 f, int .i64 l, slice A m c]).toArray] w fun e w' => e = .returned (.int .i64 (codeV k t f l m)) ∧ St w [] w' := by
 by_cases h1 : k = 1
 ·subst h1; exact rcheck1 t f l A m c bt bf bl w
 by_cases h2 : k = 2
 ·subst h2; exact rcheck2 t f l A m c hmr bt bf bl w
 ·exact rcheck0 k t f l A m c h1 h2 w
theorem codeV1 {t f l : Int} {m : Nat} : codeV 1 t f l m = 0 ↔ ¬ l = 0 ∧ m = 0 ∧ vld t l ∧ vld f l := by
 unfold codeV; (repeat' split) <;> simp_all
theorem codeV2 {t f l : Int} {m : Nat} : codeV 2 t f l m = 0 ↔ ¬ m = 0 ∧ f = 0 ∧ l = 0 ∧ vld t m := by
 unfold codeV; (repeat' split) <;> simp_all
theorem codeV0 {k t f l : Int} {m : Nat} (h : codeV k t f l m = 0) : k = 1 ∨ k = 2 := by
 unfold codeV at h
 by_cases h1 : k = 1
 ·exact .inl h1
 by_cases h2 : k = 2
 ·exact .inr h2
 rw [if_neg h1, if_neg h2] at h; cases h
theorem roverlap_no (o l p n : Int) (ho : -9223372036854775808 ≤ o + l ∧ o + l ≤ 9223372036854775807) (hp : -9223372036854775808 ≤ p + n ∧ p + n ≤ 9223372036854775807) (hc : min (o + l) (p + n) ≤ max o p) (w : World) : Calls Tryz.prog 53 #[.agg ([int .i64 o, int .i64 l]).toArray, .agg ([int .i64 p, int .i64 n]).toArray] w fun e w' => e = .returned (.agg ([int .i64 0, int .i64 0]).toArray) ∧ St w [] w' := by
 refine qM (args := [.agg ([int .i64 o, int .i64 l]).toArray, .agg ([int .i64 p, int .i64 n]).toArray]) Tryz.func53 rfl Tryz.ntmps53 (by simp) ?_
 refine qC [0, 1] ?_
 iterate 2 refine gx ?_
 refine qc (fun g1 hg1 => ?_)
 refine qc (fun g2 hg2 => ?_)
 refine qZ (fun g3 hg3 => ?_)
 iterate 8 refine gx ?_
 refine qB (qA rfl) rfl (Gets.congr (Gets.max2 rfl rfl rfl) (by rw [ifmax])) ?_
 iterate 3 refine gx ?_
 refine qC [2, 3, 4, 5] ?_
 iterate 6 refine gx ?_
 refine qB (qA rfl) rfl (qQ rfl rfl rfl (r := (o + l)) (w64 (by omega) (by omega))) ?_
 iterate 4 refine gx ?_
 refine qB (qA rfl) rfl (qQ rfl rfl rfl (r := (p + n)) (w64 (by omega) (by omega))) ?_
 refine qB (qA rfl) rfl (Gets.congr (Gets.min2 rfl rfl rfl) (by rw [ifmin])) ?_
 iterate 3 refine gx ?_
 refine qC [4, 5, 6] ?_
 iterate 5 refine gx ?_
 refine qB (qA rfl) rfl (qS (Gets.geq rfl rfl rfl) hc) ?_
 iterate 2 refine gx ?_
 refine qb rfl ?_
 iterate 2 refine gx ?_
 refine qB (qA rfl) rfl (qq rfl (vs := []) rfl (fun w => by first | rfl | kernel_rfl) (v := .agg ([int .i64 0, int .i64 0]).toArray)) ?_
 iterate 5 refine gx ?_
 exact qo rfl agg81 size81 rfl (vs := [int .i64 0, int .i64 0]) rfl (qW (i := 0) (ent := ⟨g3, 81, [int .i64 0, int .i64 0], 2⟩) rfl rfl rfl) (fun w hs => ⟨rfl, (((hs.drop (by assumption)).drop (by assumption)).drop (by assumption))⟩)
theorem roverlap_yes (o l p n : Int) (ho : -9223372036854775808 ≤ o + l ∧ o + l ≤ 9223372036854775807) (hp : -9223372036854775808 ≤ p + n ∧ p + n ≤ 9223372036854775807) (hc : ¬ min (o + l) (p + n) ≤ max o p) (bo : 0 ≤ o) (bp : 0 ≤ p) (w : World) : Calls Tryz.prog 53 #[.agg ([int .i64 o, int .i64 l]).toArray, .agg ([int .i64 p, int .i64 n]).toArray] w fun e w' => e = .returned (.agg ([int .i64 (max o p), int .i64 ((min (o + l) (p + n)) - (max o p))]).toArray) ∧ St w [] w' := by
 refine qM (args := [.agg ([int .i64 o, int .i64 l]).toArray, .agg ([int .i64 p, int .i64 n]).toArray]) Tryz.func53 rfl Tryz.ntmps53 (by simp) ?_
 refine qC [0, 1] ?_
 iterate 2 refine gx ?_
 refine qc (fun g1 hg1 => ?_)
 refine qc (fun g2 hg2 => ?_)
 refine qZ (fun g3 hg3 => ?_)
 iterate 8 refine gx ?_
 refine qB (qA rfl) rfl (Gets.congr (Gets.max2 rfl rfl rfl) (by rw [ifmax])) ?_
 iterate 3 refine gx ?_
 refine qC [2, 3, 4, 5] ?_
 iterate 6 refine gx ?_
 refine qB (qA rfl) rfl (qQ rfl rfl rfl (r := (o + l)) (w64 (by omega) (by omega))) ?_
 iterate 4 refine gx ?_
 refine qB (qA rfl) rfl (qQ rfl rfl rfl (r := (p + n)) (w64 (by omega) (by omega))) ?_
 refine qB (qA rfl) rfl (Gets.congr (Gets.min2 rfl rfl rfl) (by rw [ifmin])) ?_
 iterate 3 refine gx ?_
 refine qC [4, 5, 6] ?_
 iterate 5 refine gx ?_
 refine qB (qA rfl) rfl (qR (Gets.geq rfl rfl rfl) hc) ?_
 iterate 2 refine gx ?_
 refine qV rfl ?_
 iterate 7 refine gx ?_
 refine qB (qA rfl) rfl (qy rfl rfl rfl (r := ((min (o + l) (p + n)) - (max o p))) (w64 (by omega) (by omega))) ?_
 refine qB (qA rfl) rfl (qq rfl (vs := [(0, int .i64 (max o p)), (1, int .i64 ((min (o + l) (p + n)) - (max o p)))]) rfl (fun w => by first | rfl | kernel_rfl) (v := .agg ([int .i64 (max o p), int .i64 ((min (o + l) (p + n)) - (max o p))]).toArray)) ?_
 iterate 4 refine gx ?_
 exact qo rfl agg81 size81 rfl (vs := [int .i64 (max o p), int .i64 ((min (o + l) (p + n)) - (max o p))]) rfl (qW (i := 0) (ent := ⟨g3, 81, [int .i64 (max o p), int .i64 ((min (o + l) (p + n)) - (max o p))], 2⟩) rfl rfl rfl) (fun w hs => ⟨rfl, (((hs.drop (by assumption)).drop (by assumption)).drop (by assumption))⟩)
end Go.Proofs.YtegddcklbmonfaaGreatDoor
