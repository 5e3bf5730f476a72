/-
  A slice of structs is made.
-/
import Derived.Test.YtdllgfkcakhoeaaStr
namespace Go.Proofs.Ytdllgfkcakhoeaa
set_option linter.unusedVariables false
set_option linter.unusedSimpArgs false
set_option linter.unusedVariables false
open Go Go.RowKit
variable {P : Program} {ops : Array Oper} {Q : Exit → Act → World → Prop} {n : Sz} {w0 : World} {L L' : List (Nat × Value)} {H : List Ent}
variable {o : Oper} {rest : List Oper} {v u : Value} {x y z : Operand} {k m j : Nat} {t t' e : TypeId} {kd kd' : IntKind} {p q r : Int}
theorem rep_get {zs : List Value} {s : Nat} (hs : zs.length = s) : ∀ (c i : Nat), i < c * s → (List.replicate c zs).flatten[i]? = zs[i % s]?
  | 0, i, h => by omega
  | c + 1, i, h => by
    have hs0 : 0 < s := by
      rcases Nat.eq_zero_or_pos s with h0 | h0
      · subst h0; simp at h
      · exact h0
    rw [List.replicate_succ, List.flatten_cons]
    by_cases hi : i < s
    · rw [List.getElem?_append_left (by omega), Nat.mod_eq_of_lt hi]
    · rw [List.getElem?_append_right (by omega), hs, rep_get hs c (i - s) (by rw [Nat.succ_mul] at h; omega), ← Nat.mod_eq_sub_mod (by omega)]
theorem rep_len {zs : List Value} {s : Nat} (hs : zs.length = s) (c : Nat) : (List.replicate c zs).flatten.length = c * s := by
  induction c with
  | zero => simp
  | succ c ih => rw [List.replicate_succ, List.flatten_cons, List.length_append, ih, hs, Nat.succ_mul]; omega
theorem madeCellsS {zs : List Value} {s : Nat} (hs : zs.length = s) (h0 : 0 < s) (c : Nat) : ((Array.range (c * s)).map (fun i => zs.toArray[i % s]!)).toList = (List.replicate c zs).flatten := by
  apply List.ext_getElem?
  intro i
  by_cases h : i < c * s
  · rw [rep_get hs c i h]
    have hm : i % s < zs.length := by rw [hs]; exact Nat.mod_lt _ h0
    simp only [Array.toList_map, List.getElem?_map]
    rw [Array.toList_range, List.getElem?_range h]
    rw [List.getElem?_eq_getElem hm]
    simp [hm]
  · rw [List.getElem?_eq_none (by simp; omega), List.getElem?_eq_none (by rw [rep_len hs]; omega)]
theorem TL.makeSliceS {zv : Value} {zs : List Value} {ln cp bytes s : Nat} (hg : Wants n ops L o) (hi : inside n o.dst = true) (ho : o.op = .makeSlice t x y) (h1 : P.underlying t = some (.slice e))
    (hz : (P.info? e).map (fun i => (i.zero, i.size, i.bytes)) = some (some zv, s, bytes)) (hzc : zv.cells = zs.toArray) (hzl : zs.length = s) (hs0 : 0 < s)
    (hx : ev L x = some (.int kd p)) (hy : ev L y = some (.int kd' q)) (hp : p = (ln : Int)) (hq : q = (cp : Int)) (hle : ln ≤ cp) (hcp : cp ≤ 9223372036854775807) (hb : cp * bytes ≤ 281474976710656)
    {cs : List Value} {tot : Nat} (hcs : (List.replicate cp zs).flatten = cs) (htot : cp * s = tot)
    (hr : ∀ g, w0.heap.size ≤ g → TL P ops Q n w0 rest (put L o.dst (.slice (some ⟨g, 0, none⟩) ln cp)) (⟨g, e, cs, tot⟩ :: H)) : TL P ops Q n w0 (o :: rest) L H :=
  fun a w hf hs => wpL_wants hg.nd (hg a hf) fun K hK => by
    obtain ⟨i, hi1, hi2⟩ := Option.map_eq_some_iff.1 hz
    simp only [Prod.mk.injEq] at hi2
    obtain ⟨hz1, hz2, hz3⟩ := hi2
    subst hp; subst hq; subst hcs; subst htot
    have hrun : ∃ arr : Array Value, arr.toList = (List.replicate cp zs).flatten ∧ (execOp a.eval o).run P w = .ok (.value (.slice (some ⟨w.heap.size, 0, none⟩) ln cp)) (w.alloc (.cells arr e)) := by
      have hlw : IntKind.i64.wrap (ln : Int) = ln := IntWalk.i64_in _ (by omega)
      have hcw : IntKind.i64.wrap (cp : Int) = cp := IntWalk.i64_in _ (by omega)
      have hbytes : ¬ ((i.bytes : Int) * (cp : Int) > 2 ^ 48) := by
        rw [hz3]
        have : (bytes : Int) * (cp : Int) = ((cp * bytes : Nat) : Int) := by rw [Nat.mul_comm]; simp
        rw [this]; omega
      have hroom : ∀ (b : Nat) (ww : World), (askRoom b).run P ww = .ok () ww := by
        intro b ww
        unfold askRoom
        split <;> rfl
      have hsz : zv.cells.size = s := by rw [hzc]; simpa using hzl
      by_cases h0 : cp = 0
      · subst h0
        obtain rfl : ln = 0 := by omega
        refine ⟨#[], by simp, ?_⟩
        simp only [execOp, ho, hf.eval hx, hf.eval hy]
        refine run_value ?_
        have hw0 : IntKind.i64.wrap 0 = 0 := by decide
        have hr0 : Array.range 0 = #[] := rfl
        simp [hr0, Instr.makeSlice, Sem.run_bind, run_under h1, asInt, asIntOf, run_info hi1, hw0, hroom, sizeOf, hz2, newRow, newObj, Sem.run]
      · refine ⟨(Array.range (cp * s)).map (fun i => zs.toArray[i % s]!), madeCellsS hzl hs0 cp, ?_⟩
        simp only [execOp, ho, hf.eval hx, hf.eval hy]
        refine run_value ?_
        have hns : ¬ (cp * s = 0) := fun hc => by rcases Nat.mul_eq_zero.1 hc with h | h <;> omega
        simp [Instr.makeSlice, Sem.run_bind, run_under h1, asInt, asIntOf, run_info hi1, hlw, hcw, hbytes, hroom, sizeOf, hz2, zeroValue, hz1, hzc, hzl, newRow, newObj, Sem.run, hns]
        have e1 : ¬ (cp : Int) < 0 := by omega
        have e2 : ¬ (ln : Int) < 0 := by omega
        have e3 : ¬ (cp : Int) < (ln : Int) := by omega
        have e4 : ¬ ((2 : Int) ^ 48 < (i.bytes : Int) * (cp : Int)) := hbytes
        have e5 : ¬ s = 0 := by omega
        simp [e2, e3, h0, e5, hzc, hzl]
        simp at e4
        try omega
    obtain ⟨arr, ha, hrun⟩ := hrun
    unfold Oper.wp; rw [hrun]
    have hst := hs.alloc e _ arr ha
    rw [rep_len hzl] at hst
    exact hK _ _ (hr _ hs.size _ _ (hf.put o.dst _ hi) hst)
theorem perm_midE {A B : List Ent} {g : Ent} : (A ++ g :: B).Perm ((A ++ B) ++ [g]) := List.perm_middle.trans (List.perm_append_singleton g (A ++ B)).symm
section
variable {HB X D : List Ent} {ks : List Nat} {r' : Value → List Ent → Prop} {rs : List (Value → List Ent → Prop)}
theorem TR.storeN {i g off s : Nat} {ent : Ent} {vs : List Value} (hg : Wants n ops L o) (hd : o.dst = none) (ho : o.op = .store t x y) (hsz : (P.info? t).map (·.size) = some s)
    (hx : ev L x = some (.pointer (some ⟨g, off, none⟩))) (hy : ev L y = some (.agg vs.toArray)) (hl : vs.length = s) (h1 : ∀ u ∈ vs, u.oneCell' = true) (hi : D[i]? = some ent) (he : ent.g = g) (hoff : off + vs.length ≤ ent.cs.length)
    {cs' : List Value} (hcs : ent.cs.take off ++ vs ++ ent.cs.drop (off + vs.length) = cs') {D' : List Ent} (hH : D.set i ⟨ent.g, ent.t, cs', ent.tot⟩ = D') (hF : Fresh w0 D) (hr : TR P ops Q n w0 HB ks rs rest L X D') : TR P ops Q n w0 HB (4 :: ks) (r' :: rs) (o :: rest) L X D :=
  fun a hf => .inr (.inr ⟨rfl, hd, D', ⟨fun Z w hZ hs => by
    subst hcs
    subst hH
    have hlt : i < D.length := (List.getElem?_eq_some_iff.1 hi).1
    have hi2 : (HB ++ (Z ++ D))[HB.length + (Z.length + i)]? = some ent := by
      rw [List.getElem?_append_right (by omega), List.getElem?_append_right (by omega), ← hi]
      congr 1; omega
    obtain ⟨w', hrun, hs'⟩ := run_storeCells (P := P) (i := HB.length + (Z.length + i)) (g := g) (ent := ent) (off := off) vs 0 (HB ++ (Z ++ D)) ent w he hs hi2 h1 (by omega)
    refine ⟨w', ?_, ?_⟩
    · simp only [execOp, ho, hf.eval hx, hf.eval hy]
      refine run_unit ?_
      simp only [Instr.storeAt, Instr.sureAddr, storeVar, Sem.run_bind, Sem.run_pure, Result.andThen_ok, run_size hsz]
      rw [if_neg (fun h => h (by simpa [Value.cells] using hl))]
      simpa [Value.cells] using hrun
    · rw [Nat.add_zero] at hs'
      rwa [List.set_append_right _ _ (by omega), List.set_append_right _ _ (by omega), show HB.length + (Z.length + i) - HB.length - Z.length = i by omega] at hs', hg a hf, by subst hH; exact fresh_set hF hi rfl⟩, hr a hf⟩)
end
end Go.Proofs.Ytdllgfkcakhoeaa
