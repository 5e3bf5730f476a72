/-
  Rules for slices that a call makes, fills and copies.
-/
import Derived.Test.YtdllgfkcakhoeaaRul
namespace Go.Proofs.Ytdllgfkcakhoeaa
set_option linter.unusedVariables false
set_option linter.unusedSimpArgs false
open Go Go.RowKit

section
variable {P : Program} {ops : Array Oper} {Q : Exit → Act → World → Prop} {n : Sz} {w0 : World} {L L' : List (Nat × Value)} {H : List Ent}
variable {o : Oper} {rest : List Oper} {v u : Value} {x y z : Operand} {k m j : Nat} {t t' e : TypeId} {kd kd' : IntKind} {p q r : Int}

theorem madeCells_toList (zv : Value) (c : Nat) : ((Array.range c).map (fun i => #[zv][i % 1]!)).toList = List.replicate c zv := by
  apply List.ext_getElem?
  intro i
  simp only [Array.toList_map, List.getElem?_map, List.getElem?_replicate]
  rw [Array.toList_range]
  by_cases h : i < c
  · simp [h, Nat.mod_one]
  · simp [h]
theorem TL.makeSlice1 {zv : Value} {ln cp bytes : Nat} (hg : Wants n ops L o) (hi : inside n o.dst = true) (ho : o.op = .makeSlice t x y) (h1 : P.underlying t = some (.slice e))
    (hz : (P.info? e).map (fun i => (i.zero, i.size, i.bytes)) = some (some zv, 1, bytes)) (hzc : zv.cells = #[zv])
    (hx : ev L x = some (.int kd p)) (hy : ev L y = some (.int kd' q)) (hp : p = (ln : Int)) (hq : q = (cp : Int)) (hle : ln ≤ cp) (hcp : cp ≤ 9223372036854775807) (hb : cp * bytes ≤ 281474976710656)
    (hr : ∀ g, w0.heap.size ≤ g → TL P ops Q n w0 rest (put L o.dst (.slice (some ⟨g, 0, none⟩) ln cp)) (⟨g, e, List.replicate cp zv, cp⟩ :: H)) : TL P ops Q n w0 (o :: rest) L H :=
  fun a w hf hs => wpL_wants hg.nd (hg a hf) fun K hK => by
    obtain ⟨i, hi1, hi2⟩ := Option.map_eq_some_iff.1 hz
    simp only [Prod.mk.injEq] at hi2
    obtain ⟨hz1, hz2, hz3⟩ := hi2
    subst hp; subst hq
    have hrun : ∃ arr : Array Value, arr.toList = List.replicate cp zv ∧ (execOp a.eval o).run P w = .ok (.value (.slice (some ⟨w.heap.size, 0, none⟩) ln cp)) (w.alloc (.cells arr e)) := by
      have hlw : IntKind.i64.wrap (ln : Int) = ln := IntWalk.i64_in _ (by omega)
      have hcw : IntKind.i64.wrap (cp : Int) = cp := IntWalk.i64_in _ (by omega)
      have hbytes : ¬ ((i.bytes : Int) * (cp : Int) > 2 ^ 48) := by
        rw [hz3]
        have : (bytes : Int) * (cp : Int) = ((cp * bytes : Nat) : Int) := by rw [Nat.mul_comm]; simp
        rw [this]; omega
      refine ⟨if cp = 0 then #[] else (Array.range cp).map (fun i => #[zv][i % 1]!), ?_, ?_⟩
      · split
        · rename_i h; subst h; rfl
        · exact madeCells_toList zv cp
      · simp only [execOp, ho, hf.eval hx, hf.eval hy]
        refine run_value ?_
        have hroom : ∀ (b : Nat) (ww : World), (askRoom b).run P ww = .ok () ww := by
          intro b ww
          unfold askRoom
          split <;> rfl
        by_cases h0 : cp = 0
        · subst h0
          obtain rfl : ln = 0 := by omega
          have hw0 : IntKind.i64.wrap 0 = 0 := by decide
          have hr0 : Array.range 0 = #[] := rfl
          simp [hr0, Instr.makeSlice, Sem.run_bind, run_under h1, asInt, asIntOf, run_info hi1, hw0, hroom, sizeOf, hz2, newRow, newObj, Sem.run]
        · simp [Instr.makeSlice, Sem.run_bind, run_under h1, asInt, asIntOf, run_info hi1, hlw, hcw, hbytes, hroom, sizeOf, hz2, h0, zeroValue, hz1, hzc, newRow, newObj, Sem.run]
          have e1 : ¬ (cp : Int) < 0 := by omega
          have e2 : ¬ (ln : Int) < 0 := by omega
          have e3 : ¬ (cp : Int) < (ln : Int) := by omega
          have e4 : ¬ ((2 : Int) ^ 48 < (i.bytes : Int) * (cp : Int)) := hbytes
          simp [e2, e3, h0]
          simp at e4
          omega
    obtain ⟨arr, ha, hrun⟩ := hrun
    unfold Oper.wp; rw [hrun]
    have hst := hs.alloc e (List.replicate cp zv) arr ha
    simp only [List.length_replicate] at hst
    exact hK _ _ (hr _ hs.size _ _ (hf.put o.dst _ hi) hst)

def operVals (L : List (Nat × Value)) : List (Nat × Operand) → Option (List (Nat × Value))
  | [] => some []
  | (i, x) :: r => match ev L x, operVals L r with
    | some v, some vs => some ((i, v) :: vs)
    | _, _ => none
theorem operVals_eval {a : Act} (hf : Fr n L a) : ∀ {ps : List (Nat × Operand)} {vs : List (Nat × Value)}, operVals L ps = some vs → ps.map (fun (x : Nat × Operand) => (x.1, a.eval x.2)) = vs
  | [], vs, h => by simp [operVals] at h; simp [h]
  | (i, x) :: r, vs, h => by
    unfold operVals at h
    split at h
    · rename_i v us hv hus
      cases h
      simp [hf.eval hv, operVals_eval hf hus]
    · cases h
theorem TL.buildSlice {len s : Nat} {ps : List (Nat × Operand)} {vs : List (Nat × Value)} {cells : Array Value} {cs : List Value} {zv : Value} (hg : Wants n ops L o) (hi : inside n o.dst = true) (ho : o.op = .buildSlice t len ps.toArray)
    (h1 : P.underlying t = some (.slice e)) (hsz : (P.info? e).map (·.size) = some s) (hz : (P.info? e).bind (·.zero) = some zv) (hv : operVals L ps = some vs) (hlen : len * s ≤ 2 ^ 24) (hpos : (len * s = 0) = False)
    {tot : Nat} (hfill : Instr.fill (fun i => some (i * s, s)) ((Array.range (len * s)).map (zv.cells[· % zv.cells.size]!)) vs = some cells) (hcs : cells.toList = cs) (htot : cs.length = tot)
    (hr : ∀ g, w0.heap.size ≤ g → TL P ops Q n w0 rest (put L o.dst (.slice (some ⟨g, 0, none⟩) len len)) (⟨g, e, cs, tot⟩ :: H)) : TL P ops Q n w0 (o :: rest) L H :=
  fun a w hf hs => wpL_wants hg.nd (hg a hf) fun K hK => by
    have hrun : (execOp a.eval o).run P w = .ok (.value (.slice (some ⟨w.heap.size, 0, none⟩) len len)) (w.alloc (.cells cells e)) := by
      have hm := operVals_eval hf hv
      have hm2 : (ps.map fun (x : Nat × Operand) => match x with | (i, x) => (i, a.eval x)) = vs := hm
      simp only [execOp, ho]
      refine run_value ?_
      simp only [Instr.buildSlice, Sem.run_bind, run_under h1, Result.andThen_ok, run_size hsz, List.map_toArray, hm2]
      rw [if_neg (by omega), if_neg (by simp [hpos])]
      simp only [Sem.run_bind, run_zero hz, Result.andThen_ok, Sem.run_pure, hfill]
      simp [newRow, newObj, Sem.run_bind, Sem.run]
    unfold Oper.wp; rw [hrun]
    subst htot; exact hK _ _ (hr _ hs.size _ _ (hf.put o.dst _ hi) (hs.alloc e cs cells hcs))

/-- What a slice's value has to show: nothing, or a row of numbers in memory. -/
def Src (w : World) (A : Option Addr) (m : Nat) (kd : IntKind) (B : List Int) : Prop := B.length = m ∧ (m = 0 ∨ ∃ b off, A = some ⟨b, off, none⟩ ∧ b < w.heap.size ∧ RowI w b off m kd B)
theorem run_cells {w : World} {A : Option Addr} {m c i : Nat} {kd : IntKind} {B : List Int} (h : Src w A m kd B) (hi : i ≤ m) : (Builtin.firstCells 1 i (.slice A m c)).run P w = .ok ((B.take i).map (Value.int kd)).toArray w := by
  obtain ⟨hl, h0⟩ := h
  have row : ∀ b off, RowI w b off m kd B → (loadCells ⟨b, off, none⟩ i).run P w = .ok ((B.take i).map (Value.int kd)).toArray w := by
    intro b off hr
    have := run_loadCells (P := P) (w := w) (b := b) (off := off) i 0 #[] ((B.take i).map (Value.int kd)) (by simp; omega) (by
      intro j u hu
      rw [Nat.zero_add]
      simp only [List.getElem?_map, List.getElem?_take] at hu
      split at hu
      · rename_i hj
        have hjl : j < B.length := by omega
        rw [hr j (by omega)]
        simpa [hjl] using hu
      · simp at hu)
    simpa [loadCells] using this
  cases A with
  | none =>
    rcases h0 with h0 | ⟨b, off, h, _⟩
    · have : i = 0 := by omega
      subst this
      simp [Builtin.firstCells]
    · cases h
  | some ad =>
    simp only [Builtin.firstCells, Nat.mul_one]
    rcases h0 with h0 | ⟨b, off, h, _, hr⟩
    · have : i = 0 := by omega
      subst this
      simp [loadCells, loadCellsFrom]
    · cases h
      exact row b off hr

/-- 'copy' into an entry's block. -/
theorem TL.copy {i g off dl dc sl sc : Nat} {ent : Ent} {A : Option Addr} {B : List Int} (hg : Wants n ops L o) (hi' : inside n o.dst = true) (ho : o.op = .call { callee := .builtin .copy, args := #[x, y], argTypes := #[t, t'] })
    (h1 : P.underlying t = some (.slice e)) (hsz : (P.info? e).map (·.size) = some 1)
    (hx : ev L x = some (.slice (some ⟨g, off, none⟩) dl dc)) (hy : ev L y = some (.slice A sl sc)) (hi : H[i]? = some ent) (he : ent.g = g) (hoff : off + dl ≤ ent.cs.length)
    (hsrc : ∀ w, St w0 H w → Src w A sl kd B) {c : Nat} (hc : min sl dl = c)
    {cs' : List Value} (hcs : ent.cs.take off ++ (B.take c).map (Value.int kd) ++ ent.cs.drop (off + c) = cs') {H' : List Ent} (hH : H.set i ⟨ent.g, ent.t, cs', ent.tot⟩ = H')
    (hr : TL P ops Q n w0 rest (put L o.dst (.int .i64 c)) H') : TL P ops Q n w0 (o :: rest) L H :=
  fun a w hf hs => wpL_wants hg.nd (hg a hf) fun K hK => by
    subst hc; subst hcs; subst hH
    have hB := hsrc w hs
    have hlen : ((B.take (min sl dl)).map (Value.int kd)).length = min sl dl := by simp; have := hB.1; omega
    obtain ⟨w', hrun, hs'⟩ := run_storeCells (P := P) (i := i) (g := g) (ent := ent) (off := off) ((B.take (min sl dl)).map (Value.int kd)) 0 H ent w he hs hi ints_one (by rw [hlen]; omega)
    have hrun' : (execOp a.eval o).run P w = .ok (.value (.int .i64 (min sl dl : Nat))) w' := by
      simp only [execOp, ho, resolve, invoke, builtin, Sem.run_bind, Sem.run_pure, Result.andThen_ok, List.map_toArray, List.map_cons, List.map_nil, hf.eval hx, hf.eval hy]
      have h5 : (Builtin.copy_ #[t, t'] o.type #[.slice (some ⟨g, off, none⟩) dl dc, .slice A sl sc]).run P w = .ok (.int .i64 (min sl dl : Nat)) w' := by
        unfold Builtin.copy_
        simp only [List.getElem?_toArray, List.getElem?_cons_zero, List.getElem?_cons_succ, Sem.run_bind, run_under h1, Result.andThen_ok, Builtin.lenOf, Sem.run_pure, run_size hsz]
        have h6 := run_cells (P := P) (c := sc) hB (i := Nat.min sl dl) (Nat.min_le_left _ _)
        rw [h6]
        simp only [Result.andThen_ok]
        have h7 : (storeCells ⟨g, off, none⟩ ((B.take (Nat.min sl dl)).map (Value.int kd)) 0).run P w = .ok () w' := hrun
        rw [h7]
        rfl
      rw [h5]; rfl
    unfold Oper.wp; rw [hrun']
    rw [hlen] at hs'
    exact hK _ _ (hr _ _ (hf.put o.dst _ hi') (by simpa using hs'))

theorem take_set_one {l : List Value} {i : Nat} {v : Value} (h : i < l.length) : l.take i ++ [v] ++ l.drop (i + 1) = l.set i v := by
  rw [List.set_eq_take_append_cons_drop, if_pos h]; simp
/-- 'append' of one number, within the capacity. -/
theorem TL.append1 {i j g ln cp g2 c2 : Nat} {ent ent2 : Ent} (hg : Wants n ops L o) (hi' : inside n o.dst = true) (ho : o.op = .call { callee := .builtin .append, args := #[x, y], argTypes := #[t, t] })
    (h1 : P.underlying t = some (.slice e)) (hsz : (P.info? e).map (·.size) = some 1)
    (hx : ev L x = some (.slice (some ⟨g, 0, none⟩) ln cp)) (hy : ev L y = some (.slice (some ⟨g2, 0, none⟩) 1 c2)) (hi : H[i]? = some ent) (he : ent.g = g) (hj : H[j]? = some ent2) (he2 : ent2.g = g2)
    (hv : ent2.cs[0]? = some (.int kd p)) (hln : ln < cp) (hoff : ln < ent.cs.length)
    {cs' : List Value} (hcs : ent.cs.set ln (.int kd p) = cs') {H' : List Ent} (hH : H.set i ⟨ent.g, ent.t, cs', ent.tot⟩ = H') {ln' : Nat} (hl' : ln + 1 = ln')
    (hr : TL P ops Q n w0 rest (put L o.dst (.slice (some ⟨g, 0, none⟩) ln' cp)) H') : TL P ops Q n w0 (o :: rest) L H :=
  fun a w hf hs => wpL_wants hg.nd (hg a hf) fun K hK => by
    subst hcs; subst hH; subst hl'
    have hl2 := hs.has ent2 (List.mem_of_getElem? hj)
    have hc2 := hl2.cell hv
    obtain ⟨w', hrun, hs'⟩ := run_storeCells (P := P) (i := i) (g := g) (ent := ent) (off := ln) [.int kd p] 0 H ent w he hs hi (by simp [Value.oneCell']) (by simp; omega)
    have hrun' : (execOp a.eval o).run P w = .ok (.value (.slice (some ⟨g, 0, none⟩) (ln + 1) cp)) w' := by
      simp only [execOp, ho, resolve, invoke, builtin, Sem.run_bind, Sem.run_pure, Result.andThen_ok, List.map_toArray, List.map_cons, List.map_nil, hf.eval hx, hf.eval hy]
      have hund : ∀ ww, (underlying t).run P ww = .ok (.slice e) ww := run_under h1
      have hlc : (loadCells ⟨g2, 0, none⟩ (1 * 1)).run P w = .ok #[.int kd p] w := by
        subst he2
        simp [loadCells, loadCellsFrom, Sem.run_bind, load, Sem.run, addr_add, hc2]
      have h5 : (Builtin.append_ #[t, t] o.type #[.slice (some ⟨g, 0, none⟩) ln cp, .slice (some ⟨g2, 0, none⟩) 1 c2]).run P w = .ok (.slice (some ⟨g, 0, none⟩) (ln + 1) cp) w' := by
        unfold Builtin.append_
        simp only [List.getElem?_toArray, List.getElem?_cons_zero, List.getElem?_cons_succ, Sem.run_bind, hund, Result.andThen_ok, Builtin.lenOf, Sem.run_pure, run_size hsz, Bool.false_eq_true, if_false, Bool.not_false, if_true, Builtin.firstCells]
        rw [if_pos (by omega)]
        simp only [Sem.run_bind, hlc, Result.andThen_ok, Nat.mul_one, addr_add, Nat.zero_add]
        have h7 : (storeCells ⟨g, ln, none⟩ [.int kd p] 0).run P w = .ok () w' := hrun
        simp only [h7, Result.andThen_ok, Sem.run_pure]
      rw [h5]; rfl
    unfold Oper.wp; rw [hrun']
    have h8 : ent.cs.take (ln + 0) ++ [.int kd p] ++ ent.cs.drop (ln + 0 + [Value.int kd p].length) = ent.cs.set ln (.int kd p) := take_set_one hoff
    rw [h8] at hs'
    exact hK _ _ (hr _ _ (hf.put o.dst _ hi') hs')

/-- As Src, and the row lies in another block than g. -/
def SrcN (w : World) (g : Nat) (A : Option Addr) (m : Nat) (kd : IntKind) (B : List Int) : Prop := B.length = m ∧ (m = 0 ∨ ∃ b off, A = some ⟨b, off, none⟩ ∧ b < w.heap.size ∧ b ≠ g ∧ RowI w b off m kd B)
theorem SrcN.src {w w' : World} {g m : Nat} {A : Option Addr} {B : List Int} (h : SrcN w g A m kd B) (hs : St w H w') (hH : ∀ b, b < w.heap.size → b ≠ g → ∀ e ∈ H, e.g ≠ b) : Src w' A m kd B := by
  obtain ⟨h1, h2⟩ := h
  refine ⟨h1, ?_⟩
  rcases h2 with h2 | ⟨b, off, hA, hb, hne, hr⟩
  · exact .inl h2
  · exact .inr ⟨b, off, hA, Nat.lt_of_lt_of_le hb hs.size, fun j hj => (hs.old_cell (ad := ⟨b, off + j, none⟩) hb (hH b hb hne)).trans (hr j hj)⟩
theorem SrcN.drop {w : World} {g m c l : Nat} {A : Option Addr} {B : List Int} (h : SrcN w g A m kd B) (hl : l ≤ m) (hc : m ≤ c) : SrcN w g (cutA A c l 1) (m - l) kd (B.drop l) := by
  obtain ⟨h1, h2⟩ := h
  refine ⟨by simp [h1], ?_⟩
  rcases h2 with h2 | ⟨b, off, hA, hb, hne, hr⟩
  · exact .inl (by omega)
  · by_cases hlm : l = m
    · exact .inl (by omega)
    · subst hA
      refine .inr ⟨b, off + l, by rw [cut_is (o' := off + l) (by omega) (by omega)], hb, hne, fun j hj => ?_⟩
      have := hr (l + j) (by omega)
      rw [← Nat.add_assoc] at this
      rw [this]
      simp [List.getD_eq_getElem?_getD, List.getElem?_drop]
theorem splice_mid {A T : List Value} {R X : List Int} {kd : IntKind} {a o c : Nat} (ha : A.length = a) (ho : o + c ≤ R.length) :
    (A ++ (R.map (Value.int kd) ++ T)).take (a + o) ++ X.map (Value.int kd) ++ (A ++ (R.map (Value.int kd) ++ T)).drop (a + o + c) = A ++ ((R.take o ++ X ++ R.drop (o + c)).map (Value.int kd) ++ T) := by
  subst ha
  rw [List.take_append, List.take_append, List.drop_append, List.drop_append]
  have e1 : A.take (A.length + o) = A := List.take_of_length_le (by omega)
  have e2 : A.length + o - A.length = o := by omega
  have e3 : o - (R.map (Value.int kd)).length = 0 := by simp; omega
  have e4 : A.drop (A.length + o + c) = [] := List.drop_of_length_le (by omega)
  have e5 : A.length + o + c - A.length = o + c := by omega
  have e6 : o + c - (R.map (Value.int kd)).length = 0 := by simp; omega
  rw [e1, e2, e3, e4, e5, e6]
  simp [List.map_take, List.map_drop]
theorem Row.old {b off : Nat} {vs : List Value} (h : ∀ (j : Nat) (u : Value), vs[j]? = some u → w0.cell? ⟨b, off + j, none⟩ = some u) (hb : b < w0.heap.size) (hne : ∀ e ∈ H, e.g ≠ b) : Row w0 H b off vs := fun w hs j u hu => by
  rw [hs.old_cell (ad := ⟨b, off + j, none⟩) hb hne]; exact h j u hu
theorem lies_row {w : World} {g t tot : Nat} {A tl : List Value} (h : Ent.lies ⟨g, t, A ++ tl, tot⟩ w) (j : Nat) (u : Value) (hu : A[j]? = some u) : w.cell? ⟨g, 0 + j, none⟩ = some u := by
  rw [Nat.zero_add]; exact h.cell (app_left hu)
end
end Go.Proofs.Ytdllgfkcakhoeaa
