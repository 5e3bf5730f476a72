/-
  The reference's Format and Right.
-/
import Derived.Test.YtdcphpmkhekghaaDoorShaN
namespace Go.Proofs.YtdcphpmkhekghaaDoor
set_option linter.unusedVariables false
set_option linter.unusedSimpArgs false
open Go Go.RowKit


section
variable {P : Program} {ops : Array Oper} {Q : Exit → Act → World → Prop} {n : Nat} {w0 : World} {L : List (Nat × Value)} {H : List Ent} {o : Oper} {rest : List Oper} {ks : List Nat} {k m j d : Nat} {b c : Bool}
theorem guard_undef {a : Act} (hf : Fr n L a) (hj : (ops[j]?).bind (·.dst) = some d) (hd : look L d = some undef) : yielded ops a.tmps j = none := by
  unfold yielded
  rw [hj]
  simp [hf.2.2 d _ hd, undef]
theorem TL.passU (h : o.guard = some (j, c)) (hj : (ops[j]?).bind (·.dst) = some d) (hd : look L d = some undef) (hi : inside n o.dst = true) (hr : TL P ops Q n w0 rest (put L o.dst undef) H) : TL P ops Q n w0 (o :: rest) L H :=
  fun a w hf hs => wpList_step fun K hK => by
    have hw : Region.wanted o (yielded ops a.tmps) = false := by simp [Region.wanted, h, guard_undef hf hj hd]
    rw [if_neg (by simp [hw])]
    exact hK _ _ (hr _ _ (hf.put o.dst undef hi) hs)
theorem TS.passU (h : o.guard = some (j, c)) (hj : (ops[j]?).bind (·.dst) = some d) (hd : look L d = some undef) (hi : inside n o.dst = true) (hr : TS P ops Q n w0 k m rest (put L o.dst undef) H) : TS P ops Q n w0 k (m + 1) (o :: rest) L H :=
  fun a hf => SeqM.skip (by simp [Region.wanted, h, guard_undef hf hj hd]) (hr _ (hf.put o.dst undef hi))
theorem TM.passU (h : o.guard = some (j, c)) (hj : (ops[j]?).bind (·.dst) = some d) (hd : look L d = some undef) (hi : inside n o.dst = true) (hr : TM P ops Q n w0 ks rest (put L o.dst undef) H) : TM P ops Q n w0 (0 :: ks) (o :: rest) L H :=
  fun a hf => ⟨undef, St w0 H, ⟨fun S0 => .inr ⟨by simp [Region.wanted, h, guard_undef hf hj hd], rfl⟩, rfl⟩, hr _ (hf.put o.dst undef hi)⟩
theorem TM.pass1U (h : o.guard = some (j, c)) (hj : (ops[j]?).bind (·.dst) = some d) (hd : look L d = some undef) (hi : inside n o.dst = true) (hr : TM P ops Q n w0 ks rest (put L o.dst undef) H) : TM P ops Q n w0 (1 :: ks) (o :: rest) L H :=
  fun a hf => ⟨undef, St w0 H, ⟨.inr ⟨by simp [Region.wanted, h, guard_undef hf hj hd], rfl⟩, rfl⟩, hr _ (hf.put o.dst undef hi)⟩
theorem TM.pass1 (h : o.guard = some (j, c)) (hj : (ops[j]?).bind (·.dst) = some d) (hd : look L d = some (.bool b)) (hi : inside n o.dst = true) (hb : b = !c) (hr : TM P ops Q n w0 ks rest (put L o.dst undef) H) : TM P ops Q n w0 (1 :: ks) (o :: rest) L H :=
  fun a hf => ⟨undef, St w0 H, ⟨.inr ⟨by subst hb; simp [Region.wanted, h, guard_val hf hj hd], rfl⟩, rfl⟩, hr _ (hf.put o.dst undef hi)⟩
end
theorem Gets.strAdd {P : Program} {n : Nat} {w0 : World} {L : List (Nat × Value)} {H : List Ent} {o : Oper} {x y : Operand} {t t' : TypeId} {b c d : ByteArray} (ho : o.op = .binOp .add t x y t') (hx : ev L x = some (.string b)) (hy : ev L y = some (.string c)) (hn : b.size + c.size ≤ 9223372036854775807) (hd : b ++ c = d) : Gets P n w0 o L H (.string d) := fun a w hf hs => by
  subst hd
  simp only [execOp, ho, hf.eval hx, hf.eval hy]
  refine run_value ?_
  have : ¬ (((b.size + c.size : Nat) : Int) > IntKind.i64.max) := by simp only [IntKind.max, IntKind.bits, IntKind.signed]; simp; omega
  simp only [eqGuard, binOp, Sem.run_bind, Op.stringOp, if_neg this, Sem.run_pure]
  rfl
theorem Gets.strNe {P : Program} {n : Nat} {w0 : World} {L : List (Nat × Value)} {H : List Ent} {o : Oper} {x y : Operand} {t t' : TypeId} {b : ByteArray} (ho : o.op = .binOp .neq t x y t') (hx : ev L x = some (.string b)) (hy : ev L y = some (.string b)) (h1 : P.underlying t = some .string) : Gets P n w0 o L H (.bool false) := fun a w hf hs => by
  simp only [execOp, ho, hf.eval hx, hf.eval hy]
  refine run_value ?_
  simp [eqGuard, binOp, Sem.run_bind, Op.stringOp]
theorem Gets.boolNe {P : Program} {n : Nat} {w0 : World} {L : List (Nat × Value)} {H : List Ent} {o : Oper} {x y : Operand} {t t' : TypeId} {b : Bool} (ho : o.op = .binOp .neq t x y t') (h1 : P.underlying t = some .bool) (hx : ev L x = some (.bool b)) (hy : ev L y = some (.bool b)) : Gets P n w0 o L H (.bool false) := fun a w hf hs => by
  simp only [execOp, ho, hf.eval hx, hf.eval hy]
  refine run_value ?_
  have h3 := eqIn_bb (P := P) (t := t) 9999 (b := b) (c := b) h1 w
  have h4 : ∀ c d : Value, Op.equal t c d = Op.equalIn (9999 + 1) t c d := fun _ _ => rfl
  simp only [eqGuard, Sem.run_bind, Sem.run_pure, Result.andThen_ok, binOp, h4]
  generalize Op.equalIn (9999 + 1) t (.bool b) (.bool b) = s at *
  simp [h3]
theorem bs_size (l : List Int) : (bs l).size = l.length := by unfold bs; simp [ByteArray.size]
theorem bs_app (l r : List Int) : bs l ++ bs r = bs (l ++ r) := by
  apply ByteArray.ext
  apply Array.toList_inj.1
  unfold bs
  simp [ByteArray.data_append]
theorem hex_cut {i : Nat} (h : i < 16) : ByteArray.extract (⟨#[48, 49, 50, 51, 52, 53, 54, 55, 56, 57, 97, 98, 99, 100, 101, 102]⟩ : ByteArray) i (i + 1) = bs [hexI i] := by
  have : ∀ k : Fin 16, (ByteArray.extract (⟨#[48, 49, 50, 51, 52, 53, 54, 55, 56, 57, 97, 98, 99, 100, 101, 102]⟩ : ByteArray) k.val (k.val + 1)).data.toList = (bs [hexI k.val]).data.toList := by decide +kernel
  apply ByteArray.ext
  apply Array.toList_inj.1
  exact this ⟨i, h⟩
def refF (D : List Int) : Nat → List Int
  | 0 => []
  | k + 1 => refF D k ++ [hexI (D.getD k 0 / 16)] ++ [hexI (D.getD k 0 % 16)]
theorem refF_len (D : List Int) : ∀ k, (refF D k).length = 2 * k
  | 0 => rfl
  | k + 1 => by simp [refF, refF_len D k]; omega
theorem fmt_ref (D : List Int) : ∀ k, k ≤ 32 → fmtF D k = refF D k ++ List.replicate (64 - 2 * k) 0
  | 0, _ => by simp [fmtF, refF]
  | k + 1, h => by
    have ih := fmt_ref D k (by omega)
    have hl := refF_len D k
    simp only [fmtF, refF, ih]
    rw [show 64 - 2 * k = (64 - 2 * (k + 1)) + 1 + 1 by omega, List.replicate_succ, List.replicate_succ]
    rw [List.set_append_right _ _ (by omega), hl, Nat.sub_self, List.set_cons_zero, List.set_append_right _ _ (by omega), hl]
    rw [show 2 * k + 1 - 2 * k = 1 by omega, List.set_cons_succ, List.set_cons_zero]
    simp
theorem fmt_ref32 (D : List Int) : fmtF D 32 = refF D 32 := by simpa using fmt_ref D 32 (Nat.le_refl _)

set_option maxRecDepth 100000 in
set_option maxHeartbeats 400000 in
theorem rformat_c (D : List Int) (w : World) (hDl : D.length = 32) (hD : Bytes D) : Calls Tryd.prog 19 #[.agg (D.map (Value.int .u8)).toArray] w fun e w' => e = .returned (.string (bs (fmtF D 32))) ∧ St w [] w' := by
  refine calls_from (args := [.agg (D.map (Value.int .u8)).toArray]) Tryd.func19 rfl Tryd.ntmps19 (by simp) ?_
  refine TC.sub (Sub.cons (i := 0) rfl (Sub.nil)) ?_
  refine TC.seq ?_
  refine TC.regionL ?_
  refine TL.box (Wants.none rfl) rfl rfl rfl (cs := D.map (Value.int .u8)) (by simp [Value.cells]) (tot := 32) (by simp [hDl]) (fun g1 hg1 => ?_)
  refine TL.gets (Wants.none rfl) rfl (Gets.assign rfl rfl) ?_
  refine TL.nil ?_
  refine TE.then ?_
  refine TC.seq ?_
  refine TC.regionL ?_
  refine TL.gets (Wants.none rfl) rfl (Gets.assign rfl rfl) ?_
  refine TL.nil ?_
  refine TE.then ?_
  refine TC.seq ?_
  refine TC.seq ?_
  refine TC.regionL ?_
  refine TL.gets (Wants.none rfl) rfl (Gets.assign rfl rfl) ?_
  refine TL.nil ?_
  refine TE.then ?_
  refine TC.block ?_
  refine TC.loop (ι := Nat) (fun k => [(1, .pointer (some ⟨g1, 0, none⟩)), (3, .string (bs (refF D k))), (4, .int .i64 (k : Int))]) (fun k => [⟨g1, 24, D.map (Value.int .u8), 32⟩]) (fun k => 32 - k) (fun k => k ≤ 32) 0 (by omega) (Sub.cons (i := 1) rfl (Sub.cons (i := 3) rfl (Sub.int (i := 4) rfl (by first | omega | rfl) (Sub.nil)))) (fun w h => h) (fun k hC0 => ?_)
  refine TC.seq ?_
  refine TC.seq ?_
  refine TC.regionL ?_
  refine TL.gets (Wants.none rfl) rfl (Gets.move rfl rfl) ?_
  refine TL.gets (Wants.none rfl) rfl (Gets.lss rfl rfl rfl) ?_
  refine TL.nil ?_
  refine TE.then ?_
  refine TC.split rfl (fun h0 => ?_) (fun h0 => ?_)
  · refine TC.skip ?_
    refine TE.then ?_
    refine TC.seq ?_
    refine TC.block ?_
    refine TC.mix (by kernel_rfl) [0, 0, 0, 1, 0, 0, 0, 1, 0, 0, 0, 0, 0, 0, 1, 0, 0, 0, 1, 0, 0, 0, 0, 0] rfl (by kernel_rfl) ?_
    refine TM.free (Wants.none rfl) rfl (fun _ => Gets.move rfl rfl) ?_
    refine TM.free (Wants.none rfl) rfl (fun _ => Gets.move rfl rfl) ?_
    refine TM.free (Wants.none rfl) rfl (fun _ => Gets.idxArray rfl Tryd.underlying24 size5 rfl rfl (i := k) (by omega) (by omega) (off' := k) (by omega)) ?_
    refine TM.gets (Wants.none rfl) rfl (Gets.load1 rfl agg5 rfl (At.ent (i := 0) (ent := ⟨g1, 24, D.map (Value.int .u8), 32⟩) (off := k) rfl rfl (by have := ints_get (kd := .u8) (W := D) (i := k) (by rw [hDl]; omega); (first | exact this | (refine Eq.trans ?_ this; congr 1; omega))))) ?_
    refine TM.free (Wants.none rfl) rfl (fun _ => Gets.quo rfl rfl rfl (by omega) (r := ((D.getD k 0) / 16)) (tdiv_pos (by have := hD.get k; omega) (wu8 (by have := hD.get k; omega) (by have := hD.get k; omega)))) ?_
    refine TM.free (Wants.none rfl) rfl (fun _ => Gets.move rfl rfl) ?_
    refine TM.free (Wants.none rfl) rfl (fun _ => Gets.idxArray rfl Tryd.underlying24 size5 rfl rfl (i := k) (by omega) (by omega) (off' := k) (by omega)) ?_
    refine TM.gets (Wants.none rfl) rfl (Gets.load1 rfl agg5 rfl (At.ent (i := 0) (ent := ⟨g1, 24, D.map (Value.int .u8), 32⟩) (off := k) rfl rfl (by have := ints_get (kd := .u8) (W := D) (i := k) (by rw [hDl]; omega); (first | exact this | (refine Eq.trans ?_ this; congr 1; omega))))) ?_
    refine TM.free (Wants.none rfl) rfl (fun _ => Gets.quo rfl rfl rfl (by omega) (r := ((D.getD k 0) / 16)) (tdiv_pos (by have := hD.get k; omega) (wu8 (by have := hD.get k; omega) (by have := hD.get k; omega)))) ?_
    refine TM.free (Wants.none rfl) rfl (fun _ => Gets.add rfl rfl rfl (r := ((D.getD k 0) / 16) + 1) (wu8 (by have := hD.get k; omega) (by have := hD.get k; omega))) ?_
    refine TM.free (Wants.none rfl) rfl (fun _ => Gets.congr (Gets.sliceStr (str := ⟨#[48, 49, 50, 51, 52, 53, 54, 55, 56, 57, 97, 98, 99, 100, 101, 102]⟩) rfl Tryd.underlying9 rfl (l := ((D.getD k 0) / 16).toNat) (h := ((D.getD k 0) / 16).toNat + 1) (bnd.at_ rfl (by have := hD.get k; omega)) (bnd.at_ rfl (by have := hD.get k; omega)) (by omega) (show ((D.getD k 0) / 16).toNat + 1 ≤ 16 by have := hD.get k; omega)) (v := .string (bs [hexI ((D.getD k 0) / 16)])) (congrArg Value.string ((hex_cut (by have := hD.get k; omega)).trans (by rw [Int.toNat_of_nonneg (by have := hD.get k; omega)])))) ?_
    refine TM.free (Wants.none rfl) rfl (fun _ => Gets.strAdd rfl rfl rfl (by have := refF_len D k; simp only [bs_size, List.length_append, List.length_cons, List.length_nil]; omega) (d := bs (refF D k ++ [hexI ((D.getD k 0) / 16)])) (bs_app _ _)) ?_
    refine TM.free (Wants.none rfl) rfl (fun _ => Gets.move rfl rfl) ?_
    refine TM.free (Wants.none rfl) rfl (fun _ => Gets.idxArray rfl Tryd.underlying24 size5 rfl rfl (i := k) (by omega) (by omega) (off' := k) (by omega)) ?_
    refine TM.gets (Wants.none rfl) rfl (Gets.load1 rfl agg5 rfl (At.ent (i := 0) (ent := ⟨g1, 24, D.map (Value.int .u8), 32⟩) (off := k) rfl rfl (by have := ints_get (kd := .u8) (W := D) (i := k) (by rw [hDl]; omega); (first | exact this | (refine Eq.trans ?_ this; congr 1; omega))))) ?_
    refine TM.free (Wants.none rfl) rfl (fun _ => Gets.rem rfl rfl rfl (by omega) (r := ((D.getD k 0) % 16)) (tmod_pos (by have := hD.get k; omega) rfl)) ?_
    refine TM.free (Wants.none rfl) rfl (fun _ => Gets.move rfl rfl) ?_
    refine TM.free (Wants.none rfl) rfl (fun _ => Gets.idxArray rfl Tryd.underlying24 size5 rfl rfl (i := k) (by omega) (by omega) (off' := k) (by omega)) ?_
    refine TM.gets (Wants.none rfl) rfl (Gets.load1 rfl agg5 rfl (At.ent (i := 0) (ent := ⟨g1, 24, D.map (Value.int .u8), 32⟩) (off := k) rfl rfl (by have := ints_get (kd := .u8) (W := D) (i := k) (by rw [hDl]; omega); (first | exact this | (refine Eq.trans ?_ this; congr 1; omega))))) ?_
    refine TM.free (Wants.none rfl) rfl (fun _ => Gets.rem rfl rfl rfl (by omega) (r := ((D.getD k 0) % 16)) (tmod_pos (by have := hD.get k; omega) rfl)) ?_
    refine TM.free (Wants.none rfl) rfl (fun _ => Gets.add rfl rfl rfl (r := ((D.getD k 0) % 16) + 1) (wu8 (by have := hD.get k; omega) (by have := hD.get k; omega))) ?_
    refine TM.free (Wants.none rfl) rfl (fun _ => Gets.congr (Gets.sliceStr (str := ⟨#[48, 49, 50, 51, 52, 53, 54, 55, 56, 57, 97, 98, 99, 100, 101, 102]⟩) rfl Tryd.underlying9 rfl (l := ((D.getD k 0) % 16).toNat) (h := ((D.getD k 0) % 16).toNat + 1) (bnd.at_ rfl (by have := hD.get k; omega)) (bnd.at_ rfl (by have := hD.get k; omega)) (by omega) (show ((D.getD k 0) % 16).toNat + 1 ≤ 16 by have := hD.get k; omega)) (v := .string (bs [hexI ((D.getD k 0) % 16)])) (congrArg Value.string ((hex_cut (by have := hD.get k; omega)).trans (by rw [Int.toNat_of_nonneg (by have := hD.get k; omega)])))) ?_
    refine TM.free (Wants.none rfl) rfl (fun _ => Gets.strAdd rfl rfl rfl (by have := refF_len D k; simp only [bs_size, List.length_append, List.length_cons, List.length_nil]; omega) (d := bs ((refF D k ++ [hexI ((D.getD k 0) / 16)]) ++ [hexI ((D.getD k 0) % 16)])) (bs_app _ _)) ?_
    refine TM.free (Wants.none rfl) rfl (fun _ => Gets.assign rfl rfl) ?_
    refine TM.nil ?_
    refine TE.blockN ?_
    refine TE.then ?_
    refine TC.sub (Sub.cons (i := 1) rfl (Sub.cons (i := 3) rfl (Sub.cons (i := 4) rfl (Sub.nil)))) ?_
    refine TC.regionL ?_
    refine TL.gets (Wants.none rfl) rfl (Gets.move rfl rfl) ?_
    refine TL.gets (Wants.none rfl) rfl (Gets.add rfl rfl rfl (r := ((k : Int) + 1)) (w64 (by omega) (by omega))) ?_
    refine TL.gets (Wants.none rfl) rfl (Gets.assign rfl rfl) ?_
    refine TL.nil ?_
    exact TE.back (k + 1) (by omega) (by omega) (Sub.cons (i := 1) rfl (Sub.cons (i := 3) rfl (Sub.int (i := 4) rfl (by first | omega | rfl) (Sub.nil)))) (fun w h => h)
  · obtain rfl : k = 32 := by omega
    rw [fmt_ref32]
    generalize refF D 32 = F
    refine TC.exit ?_
    refine TE.thenX ?_
    refine TE.thenX ?_
    refine TE.blockX ?_
    refine TE.then ?_
    refine TC.seq ?_
    refine TC.regionL ?_
    refine TL.gets (Wants.none rfl) rfl (Gets.move rfl rfl) ?_
    refine TL.gets (Wants.none rfl) rfl (Gets.assign rfl rfl) ?_
    refine TL.nil ?_
    refine TE.then ?_
    refine TC.ret ?_
    exact TE.ret1 rfl rfl (fun w hs => ⟨rfl, hs.drop (by assumption)⟩)

set_option maxRecDepth 100000 in
set_option maxHeartbeats 400000 in
theorem rright_c (s : ByteArray) (w : World) (hsz : s.size ≤ 9223372036854775807) : Calls Tryd.prog 20 #[.string s] w fun e w' => e = .returned (.bool (decide (rightP s))) ∧ St w [] w' := by
  refine calls_from (args := [.string s]) Tryd.func20 rfl Tryd.ntmps20 (by simp) ?_
  refine TC.sub (Sub.cons (i := 0) rfl (Sub.nil)) ?_
  refine TC.seq ?_
  refine TC.regionL ?_
  refine TL.gets (Wants.none rfl) rfl (Gets.assign rfl rfl) ?_
  refine TL.nil ?_
  refine TE.then ?_
  refine TC.seq ?_
  refine TC.seq ?_
  refine TC.regionL ?_
  refine TL.gets (Wants.none rfl) rfl (Gets.assign rfl rfl) ?_
  refine TL.nil ?_
  refine TE.then ?_
  refine TC.block ?_
  refine TC.loop (ι := Nat) (fun k => [(0, .string s), (3, .int .i64 (k : Int))]) (fun k => []) (fun k => s.size - k) (fun k => k ≤ s.size ∧ goodTo s k) 0 ⟨by omega, fun j hj => absurd hj (Nat.not_lt_zero j)⟩ (Sub.cons (i := 0) rfl (Sub.int (i := 3) rfl (by first | omega | rfl) (Sub.nil))) (fun w h => h) (fun k hC0 => ?_)
  refine TC.seq ?_
  refine TC.seq ?_
  refine TC.regionL ?_
  refine TL.gets (Wants.none rfl) rfl (Gets.move rfl rfl) ?_
  refine TL.gets (Wants.none rfl) rfl (Gets.move rfl rfl) ?_
  refine TL.gets (Wants.none rfl) rfl (Gets.lenString rfl Tryd.underlying9 rfl) ?_
  refine TL.gets (Wants.none rfl) rfl (Gets.lss rfl rfl rfl) ?_
  refine TL.nil ?_
  refine TE.then ?_
  refine TC.split rfl (fun hq0 => ?_) (fun hq0 => ?_)
  · refine TC.skip ?_
    refine TE.then ?_
    refine TC.seq ?_
    refine TC.block ?_
    refine TC.seq ?_
    refine TC.regionL ?_
    refine TL.gets (Wants.none rfl) rfl (Gets.move rfl rfl) ?_
    refine TL.gets (Wants.none rfl) rfl (Gets.move rfl rfl) ?_
    refine TL.gets (Wants.none rfl) rfl (Gets.congr (Gets.indexStr (str := s) rfl Tryd.underlying9 rfl rfl (i := k) (by omega) (show k < s.size by omega)) (v := .int .u8 (chrI s k)) (congrArg (Value.int .u8) (chrI_is _))) ?_
    by_cases ca : 48 ≤ (chrI s k)
    · refine TL.gets (Wants.none rfl) rfl (Gets.isTrue (Gets.geq rfl rfl rfl) ca) ?_
      refine TL.gets (Wants.none rfl) rfl (Gets.move rfl rfl) ?_
      refine TL.gets (Wants.yes rfl rfl rfl) rfl (Gets.move rfl rfl) ?_
      refine TL.gets (Wants.yes rfl rfl rfl) rfl (Gets.move rfl rfl) ?_
      refine TL.gets (Wants.yes rfl rfl rfl) rfl (Gets.congr (Gets.indexStr (str := s) rfl Tryd.underlying9 rfl rfl (i := k) (by omega) (show k < s.size by omega)) (v := .int .u8 (chrI s k)) (congrArg (Value.int .u8) (chrI_is _))) ?_
      by_cases cb : (chrI s k) ≤ 57
      · refine TL.gets (Wants.yes rfl rfl rfl) rfl (Gets.isTrue (Gets.leq rfl rfl rfl) cb) ?_
        refine TL.gets (Wants.none rfl) rfl (Gets.pickT rfl rfl rfl) ?_
        refine TL.gets (Wants.none rfl) rfl (Gets.move rfl rfl) ?_
        refine TL.pass rfl rfl rfl rfl rfl ?_
        refine TL.pass rfl rfl rfl rfl rfl ?_
        refine TL.pass rfl rfl rfl rfl rfl ?_
        refine TL.pass rfl rfl rfl rfl rfl ?_
        refine TL.pass rfl rfl rfl rfl rfl ?_
        refine TL.passU rfl rfl rfl rfl ?_
        refine TL.passU rfl rfl rfl rfl ?_
        refine TL.passU rfl rfl rfl rfl ?_
        refine TL.passU rfl rfl rfl rfl ?_
        refine TL.pass rfl rfl rfl rfl rfl ?_
        refine TL.gets (Wants.none rfl) rfl (Gets.pickT rfl rfl rfl) ?_
        refine TL.gets (Wants.none rfl) rfl (Gets.not rfl rfl) ?_
        refine TL.nil ?_
        refine TE.then ?_
        refine TC.sub (Sub.cons (i := 0) rfl (Sub.cons (i := 3) rfl (Sub.cons (i := 32) rfl (Sub.nil)))) ?_
        refine TC.no rfl ?_
        refine TC.skip ?_
        refine TE.blockN ?_
        refine TE.then ?_
        refine TC.regionL ?_
        refine TL.gets (Wants.none rfl) rfl (Gets.move rfl rfl) ?_
        refine TL.gets (Wants.none rfl) rfl (Gets.add rfl rfl rfl (r := ((k : Int) + 1)) (w64 (by omega) (by omega))) ?_
        refine TL.gets (Wants.none rfl) rfl (Gets.assign rfl rfl) ?_
        refine TL.nil ?_
        exact TE.back (k + 1) (by omega) ⟨by omega, fun j hj => by by_cases e : j = k; (· rw [e]; exact (hexV_iff (chrI_bd s k).1 (chrI_bd s k).2).2 (by omega)); (· exact hC0.2 j (by omega))⟩ (Sub.cons (i := 0) rfl (Sub.int (i := 3) rfl (by first | omega | rfl) (Sub.nil))) (fun w h => h)
      · refine TL.gets (Wants.yes rfl rfl rfl) rfl (Gets.isFalse (Gets.leq rfl rfl rfl) cb) ?_
        refine TL.gets (Wants.none rfl) rfl (Gets.pickT rfl rfl rfl) ?_
        refine TL.gets (Wants.none rfl) rfl (Gets.move rfl rfl) ?_
        refine TL.gets (Wants.yes rfl rfl rfl) rfl (Gets.move rfl rfl) ?_
        refine TL.gets (Wants.yes rfl rfl rfl) rfl (Gets.move rfl rfl) ?_
        refine TL.gets (Wants.yes rfl rfl rfl) rfl (Gets.congr (Gets.indexStr (str := s) rfl Tryd.underlying9 rfl rfl (i := k) (by omega) (show k < s.size by omega)) (v := .int .u8 (chrI s k)) (congrArg (Value.int .u8) (chrI_is _))) ?_
        by_cases cc : 97 ≤ (chrI s k)
        · refine TL.gets (Wants.yes rfl rfl rfl) rfl (Gets.isTrue (Gets.geq rfl rfl rfl) cc) ?_
          refine TL.gets (Wants.yes rfl rfl rfl) rfl (Gets.move rfl rfl) ?_
          refine TL.gets (Wants.yes rfl rfl rfl) rfl (Gets.move rfl rfl) ?_
          refine TL.gets (Wants.yes rfl rfl rfl) rfl (Gets.move rfl rfl) ?_
          refine TL.gets (Wants.yes rfl rfl rfl) rfl (Gets.congr (Gets.indexStr (str := s) rfl Tryd.underlying9 rfl rfl (i := k) (by omega) (show k < s.size by omega)) (v := .int .u8 (chrI s k)) (congrArg (Value.int .u8) (chrI_is _))) ?_
          by_cases cd : (chrI s k) ≤ 102
          · refine TL.gets (Wants.yes rfl rfl rfl) rfl (Gets.isTrue (Gets.leq rfl rfl rfl) cd) ?_
            refine TL.gets (Wants.yes rfl rfl rfl) rfl (Gets.pickT rfl rfl rfl) ?_
            refine TL.gets (Wants.none rfl) rfl (Gets.pickF rfl rfl rfl) ?_
            refine TL.gets (Wants.none rfl) rfl (Gets.not rfl rfl) ?_
            refine TL.nil ?_
            refine TE.then ?_
            refine TC.sub (Sub.cons (i := 0) rfl (Sub.cons (i := 3) rfl (Sub.cons (i := 32) rfl (Sub.nil)))) ?_
            refine TC.no rfl ?_
            refine TC.skip ?_
            refine TE.blockN ?_
            refine TE.then ?_
            refine TC.regionL ?_
            refine TL.gets (Wants.none rfl) rfl (Gets.move rfl rfl) ?_
            refine TL.gets (Wants.none rfl) rfl (Gets.add rfl rfl rfl (r := ((k : Int) + 1)) (w64 (by omega) (by omega))) ?_
            refine TL.gets (Wants.none rfl) rfl (Gets.assign rfl rfl) ?_
            refine TL.nil ?_
            exact TE.back (k + 1) (by omega) ⟨by omega, fun j hj => by by_cases e : j = k; (· rw [e]; exact (hexV_iff (chrI_bd s k).1 (chrI_bd s k).2).2 (by omega)); (· exact hC0.2 j (by omega))⟩ (Sub.cons (i := 0) rfl (Sub.int (i := 3) rfl (by first | omega | rfl) (Sub.nil))) (fun w h => h)
          · refine TL.gets (Wants.yes rfl rfl rfl) rfl (Gets.isFalse (Gets.leq rfl rfl rfl) cd) ?_
            refine TL.gets (Wants.yes rfl rfl rfl) rfl (Gets.pickT rfl rfl rfl) ?_
            refine TL.gets (Wants.none rfl) rfl (Gets.pickF rfl rfl rfl) ?_
            refine TL.gets (Wants.none rfl) rfl (Gets.not rfl rfl) ?_
            refine TL.nil ?_
            refine TE.then ?_
            refine TC.sub (Sub.cons (i := 0) rfl (Sub.cons (i := 3) rfl (Sub.cons (i := 32) rfl (Sub.nil)))) ?_
            refine TC.yes rfl ?_
            refine TC.seq ?_
            refine TC.regionL ?_
            refine TL.gets (Wants.none rfl) rfl (Gets.assign rfl rfl) ?_
            refine TL.nil ?_
            refine TE.then ?_
            refine TC.ret ?_
            refine TE.blockR ?_
            refine TE.thenR ?_
            refine TE.thenR ?_
            refine TE.blockR ?_
            refine TE.thenR ?_
            exact TE.ret1 rfl rfl (fun w hs => ⟨congrArg (fun b => Ending.returned (.bool b)) (decide_eq_false (fun hr => by have h1 := hr.1; have := (hexV_iff (chrI_bd s k).1 (chrI_bd s k).2).1 (hr.2 k (by omega)); omega)).symm, hs⟩)
        · refine TL.gets (Wants.yes rfl rfl rfl) rfl (Gets.isFalse (Gets.geq rfl rfl rfl) cc) ?_
          refine TL.gets (Wants.yes rfl rfl rfl) rfl (Gets.move rfl rfl) ?_
          refine TL.pass rfl rfl rfl rfl rfl ?_
          refine TL.pass rfl rfl rfl rfl rfl ?_
          refine TL.pass rfl rfl rfl rfl rfl ?_
          refine TL.pass rfl rfl rfl rfl rfl ?_
          refine TL.gets (Wants.yes rfl rfl rfl) rfl (Gets.pickF rfl rfl rfl) ?_
          refine TL.gets (Wants.none rfl) rfl (Gets.pickF rfl rfl rfl) ?_
          refine TL.gets (Wants.none rfl) rfl (Gets.not rfl rfl) ?_
          refine TL.nil ?_
          refine TE.then ?_
          refine TC.sub (Sub.cons (i := 0) rfl (Sub.cons (i := 3) rfl (Sub.cons (i := 32) rfl (Sub.nil)))) ?_
          refine TC.yes rfl ?_
          refine TC.seq ?_
          refine TC.regionL ?_
          refine TL.gets (Wants.none rfl) rfl (Gets.assign rfl rfl) ?_
          refine TL.nil ?_
          refine TE.then ?_
          refine TC.ret ?_
          refine TE.blockR ?_
          refine TE.thenR ?_
          refine TE.thenR ?_
          refine TE.blockR ?_
          refine TE.thenR ?_
          exact TE.ret1 rfl rfl (fun w hs => ⟨congrArg (fun b => Ending.returned (.bool b)) (decide_eq_false (fun hr => by have h1 := hr.1; have := (hexV_iff (chrI_bd s k).1 (chrI_bd s k).2).1 (hr.2 k (by omega)); omega)).symm, hs⟩)
    · refine TL.gets (Wants.none rfl) rfl (Gets.isFalse (Gets.geq rfl rfl rfl) ca) ?_
      refine TL.gets (Wants.none rfl) rfl (Gets.move rfl rfl) ?_
      refine TL.pass rfl rfl rfl rfl rfl ?_
      refine TL.pass rfl rfl rfl rfl rfl ?_
      refine TL.pass rfl rfl rfl rfl rfl ?_
      refine TL.pass rfl rfl rfl rfl rfl ?_
      refine TL.gets (Wants.none rfl) rfl (Gets.pickF rfl rfl rfl) ?_
      refine TL.gets (Wants.none rfl) rfl (Gets.move rfl rfl) ?_
      refine TL.gets (Wants.yes rfl rfl rfl) rfl (Gets.move rfl rfl) ?_
      refine TL.gets (Wants.yes rfl rfl rfl) rfl (Gets.move rfl rfl) ?_
      refine TL.gets (Wants.yes rfl rfl rfl) rfl (Gets.congr (Gets.indexStr (str := s) rfl Tryd.underlying9 rfl rfl (i := k) (by omega) (show k < s.size by omega)) (v := .int .u8 (chrI s k)) (congrArg (Value.int .u8) (chrI_is _))) ?_
      by_cases cc : 97 ≤ (chrI s k)
      · refine TL.gets (Wants.yes rfl rfl rfl) rfl (Gets.isTrue (Gets.geq rfl rfl rfl) cc) ?_
        refine TL.gets (Wants.yes rfl rfl rfl) rfl (Gets.move rfl rfl) ?_
        refine TL.gets (Wants.yes rfl rfl rfl) rfl (Gets.move rfl rfl) ?_
        refine TL.gets (Wants.yes rfl rfl rfl) rfl (Gets.move rfl rfl) ?_
        refine TL.gets (Wants.yes rfl rfl rfl) rfl (Gets.congr (Gets.indexStr (str := s) rfl Tryd.underlying9 rfl rfl (i := k) (by omega) (show k < s.size by omega)) (v := .int .u8 (chrI s k)) (congrArg (Value.int .u8) (chrI_is _))) ?_
        by_cases cd : (chrI s k) ≤ 102
        · refine TL.gets (Wants.yes rfl rfl rfl) rfl (Gets.isTrue (Gets.leq rfl rfl rfl) cd) ?_
          refine TL.gets (Wants.yes rfl rfl rfl) rfl (Gets.pickT rfl rfl rfl) ?_
          refine TL.gets (Wants.none rfl) rfl (Gets.pickF rfl rfl rfl) ?_
          refine TL.gets (Wants.none rfl) rfl (Gets.not rfl rfl) ?_
          refine TL.nil ?_
          refine TE.then ?_
          refine TC.sub (Sub.cons (i := 0) rfl (Sub.cons (i := 3) rfl (Sub.cons (i := 32) rfl (Sub.nil)))) ?_
          refine TC.no rfl ?_
          refine TC.skip ?_
          refine TE.blockN ?_
          refine TE.then ?_
          refine TC.regionL ?_
          refine TL.gets (Wants.none rfl) rfl (Gets.move rfl rfl) ?_
          refine TL.gets (Wants.none rfl) rfl (Gets.add rfl rfl rfl (r := ((k : Int) + 1)) (w64 (by omega) (by omega))) ?_
          refine TL.gets (Wants.none rfl) rfl (Gets.assign rfl rfl) ?_
          refine TL.nil ?_
          exact TE.back (k + 1) (by omega) ⟨by omega, fun j hj => by by_cases e : j = k; (· rw [e]; exact (hexV_iff (chrI_bd s k).1 (chrI_bd s k).2).2 (by omega)); (· exact hC0.2 j (by omega))⟩ (Sub.cons (i := 0) rfl (Sub.int (i := 3) rfl (by first | omega | rfl) (Sub.nil))) (fun w h => h)
        · refine TL.gets (Wants.yes rfl rfl rfl) rfl (Gets.isFalse (Gets.leq rfl rfl rfl) cd) ?_
          refine TL.gets (Wants.yes rfl rfl rfl) rfl (Gets.pickT rfl rfl rfl) ?_
          refine TL.gets (Wants.none rfl) rfl (Gets.pickF rfl rfl rfl) ?_
          refine TL.gets (Wants.none rfl) rfl (Gets.not rfl rfl) ?_
          refine TL.nil ?_
          refine TE.then ?_
          refine TC.sub (Sub.cons (i := 0) rfl (Sub.cons (i := 3) rfl (Sub.cons (i := 32) rfl (Sub.nil)))) ?_
          refine TC.yes rfl ?_
          refine TC.seq ?_
          refine TC.regionL ?_
          refine TL.gets (Wants.none rfl) rfl (Gets.assign rfl rfl) ?_
          refine TL.nil ?_
          refine TE.then ?_
          refine TC.ret ?_
          refine TE.blockR ?_
          refine TE.thenR ?_
          refine TE.thenR ?_
          refine TE.blockR ?_
          refine TE.thenR ?_
          exact TE.ret1 rfl rfl (fun w hs => ⟨congrArg (fun b => Ending.returned (.bool b)) (decide_eq_false (fun hr => by have h1 := hr.1; have := (hexV_iff (chrI_bd s k).1 (chrI_bd s k).2).1 (hr.2 k (by omega)); omega)).symm, hs⟩)
      · refine TL.gets (Wants.yes rfl rfl rfl) rfl (Gets.isFalse (Gets.geq rfl rfl rfl) cc) ?_
        refine TL.gets (Wants.yes rfl rfl rfl) rfl (Gets.move rfl rfl) ?_
        refine TL.pass rfl rfl rfl rfl rfl ?_
        refine TL.pass rfl rfl rfl rfl rfl ?_
        refine TL.pass rfl rfl rfl rfl rfl ?_
        refine TL.pass rfl rfl rfl rfl rfl ?_
        refine TL.gets (Wants.yes rfl rfl rfl) rfl (Gets.pickF rfl rfl rfl) ?_
        refine TL.gets (Wants.none rfl) rfl (Gets.pickF rfl rfl rfl) ?_
        refine TL.gets (Wants.none rfl) rfl (Gets.not rfl rfl) ?_
        refine TL.nil ?_
        refine TE.then ?_
        refine TC.sub (Sub.cons (i := 0) rfl (Sub.cons (i := 3) rfl (Sub.cons (i := 32) rfl (Sub.nil)))) ?_
        refine TC.yes rfl ?_
        refine TC.seq ?_
        refine TC.regionL ?_
        refine TL.gets (Wants.none rfl) rfl (Gets.assign rfl rfl) ?_
        refine TL.nil ?_
        refine TE.then ?_
        refine TC.ret ?_
        refine TE.blockR ?_
        refine TE.thenR ?_
        refine TE.thenR ?_
        refine TE.blockR ?_
        refine TE.thenR ?_
        exact TE.ret1 rfl rfl (fun w hs => ⟨congrArg (fun b => Ending.returned (.bool b)) (decide_eq_false (fun hr => by have h1 := hr.1; have := (hexV_iff (chrI_bd s k).1 (chrI_bd s k).2).1 (hr.2 k (by omega)); omega)).symm, hs⟩)
  · refine TC.exit ?_
    refine TE.thenX ?_
    refine TE.thenX ?_
    refine TE.blockX ?_
    refine TE.then ?_
    refine TC.seq ?_
    refine TC.regionL ?_
    refine TL.gets (Wants.none rfl) rfl (Gets.move rfl rfl) ?_
    refine TL.gets (Wants.none rfl) rfl (Gets.lenString rfl Tryd.underlying9 rfl) ?_
    refine TL.gets (Wants.none rfl) rfl (Gets.eql rfl rfl rfl) ?_
    refine TL.gets (Wants.none rfl) rfl (Gets.assign rfl rfl) ?_
    refine TL.nil ?_
    refine TE.then ?_
    refine TC.ret ?_
    exact TE.ret1 rfl rfl (fun w hs => ⟨congrArg (fun b => Ending.returned (.bool b)) (decide_eq_decide.2 ⟨fun h => ⟨by omega, fun j hj => hC0.2 j (by omega)⟩, fun h => by have := h.1; omega⟩), hs⟩)
end Go.Proofs.YtdcphpmkhekghaaDoor
