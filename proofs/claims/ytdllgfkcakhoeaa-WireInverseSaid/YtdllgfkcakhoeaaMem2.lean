/-
  Rules for slices that grow, for arrays that are compared, for guards.
-/
import Derived.Test.YtdllgfkcakhoeaaMem
import Derived.Lib.Strings
namespace Go.Proofs.Ytdllgfkcakhoeaa
set_option linter.unusedVariables false
set_option linter.unusedSimpArgs false
open Go Go.RowKit

section
variable {P : Program} {ops : Array Oper} {Q : Exit → Act → World → Prop} {n : Sz} {w0 : World} {L L' : List (Nat × Value)} {H : List Ent}
variable {o : Oper} {rest : List Oper} {v u : Value} {x y z : Operand} {k m j : Nat} {t t' e : TypeId} {kd kd' : IntKind} {p q r : Int}

theorem Gets.isTrue {c : Prop} [Decidable c] (h : Gets P n w0 o L H (.bool (decide c))) (hc : c) : Gets P n w0 o L H (.bool true) := by rwa [decide_eq_true hc] at h
theorem Gets.isFalse {c : Prop} [Decidable c] (h : Gets P n w0 o L H (.bool (decide c))) (hc : ¬ c) : Gets P n w0 o L H (.bool false) := by rwa [decide_eq_false hc] at h
theorem Gets.pickT (ho : o.op = .pick x y z) (hx : ev L x = some (.bool true)) (hy : ev L y = some v) : Gets P n w0 o L H v := fun a w hf hs => by
  simp only [execOp, ho, hf.eval hx, hf.eval hy, asBool, Sem.run_bind, Sem.run_pure, Result.andThen_ok, if_true]
theorem Gets.pickF (ho : o.op = .pick x y z) (hx : ev L x = some (.bool false)) (hz : ev L z = some v) : Gets P n w0 o L H v := fun a w hf hs => by
  simp only [execOp, ho, hf.eval hx, hf.eval hz, asBool, Sem.run_bind, Sem.run_pure, Result.andThen_ok, Bool.false_eq_true, if_false]

/-! ### Arrays of numbers, compared -/
theorem eqIn_int (d : Nat) (h1 : P.underlying e = some (.int kd)) (a : Int) (w : World) : (Op.equalIn (d + 1) e (.int kd a) (.int kd a)).run P w = .ok true w := by
  simp [Op.equalIn, Sem.run_bind, run_under h1]
theorem run_part1 {cs : Array Value} {i : Nat} (hag : (isAgg e).run P = fun w => .ok false w) (hi : cs[i]? = some v) (w : World) : (part e cs i).run P w = .ok v w := by
  simp [part, Sem.run_bind, hag, hi]
theorem eqIn_arr (d : Nat) {len : Nat} {W : List Int} (h1 : P.underlying t = some (.array len e)) (h2 : P.underlying e = some (.int kd)) (hsz : (P.info? e).map (·.size) = some 1) (hl : W.length = len) (w : World) :
    (Op.equalIn (d + 1 + 1) t (.agg (W.map (Value.int kd)).toArray) (.agg (W.map (Value.int kd)).toArray)).run P w = .ok true w := by
  have hag := isAgg_no h2 rfl
  unfold Op.equalIn
  simp only [Sem.run_bind, run_under h1, Result.andThen_ok, run_size hsz]
  simp only [Std.Legacy.Range.forIn_eq_forIn_range', Std.Legacy.Range.size, Nat.sub_zero, Nat.add_one_sub_one, Nat.div_one]
  have key : ∀ (l : List Nat), (∀ i ∈ l, i < len) → ((forIn l ((none, ()) : Option Bool × Unit) fun i r => do
      if !(← Op.equalIn (d + 1) e (← part e (W.map (Value.int kd)).toArray (i * 1)) (← part e (W.map (Value.int kd)).toArray (i * 1))) then
        pure (ForInStep.done (some false, ()))
      else pure (ForInStep.yield (none, ()))) : Sem (Option Bool × Unit)).run P w = .ok (none, ()) w := by
    intro l
    induction l with
    | nil => intro _; rfl
    | cons i l ih =>
      intro hi
      have hil : i < W.length := by rw [hl]; exact hi i (by simp)
      have hp := run_part1 (P := P) (e := e) (cs := (W.map (Value.int kd)).toArray) (i := i * 1) (v := .int kd W[i]) hag (by simp [hil]) w
      simp only [List.forIn_cons, Sem.run_bind, hp, Result.andThen_ok, eqIn_int d h2]
      simp only [Bool.not_true, Bool.false_eq_true, if_false, Sem.run_pure, Result.andThen_ok]
      exact ih fun j hj => hi j (by simp [hj])
  rw [key (List.range' 0 len) (fun i hi => by have := List.mem_range'_1.1 hi; omega)]
  rfl
theorem run_noGuard {a b : Array Value} (h : P.eqGuardType P.depth t = false) (op : BinOp) (w : World) : (eqGuard op t x y (.agg a) (.agg b)).run P w = .ok () w := by
  cases op <;> first | rfl | simp [eqGuard, program, Sem.run_bind, Sem.run, h]
theorem Gets.arrSame {len : Nat} {W : List Int} (ho : o.op = .binOp .eql t x y t') (h1 : P.underlying t = some (.array len e)) (h2 : P.underlying e = some (.int kd)) (hsz : (P.info? e).map (·.size) = some 1) (hgt : P.eqGuardType P.depth t = false)
    (hx : ev L x = some (.agg (W.map (Value.int kd)).toArray)) (hy : ev L y = some (.agg (W.map (Value.int kd)).toArray)) (hl : W.length = len) : Gets P n w0 o L H (.bool true) := fun a w hf hs => by
  simp only [execOp, ho, hf.eval hx, hf.eval hy]
  refine run_value ?_
  have h3 := eqIn_arr (P := P) 9998 h1 h2 hsz hl w
  have h4 : ∀ c d : Value, Op.equal t c d = Op.equalIn (9998 + 1 + 1) t c d := fun _ _ => rfl
  simp only [Sem.run_bind, run_noGuard hgt, Result.andThen_ok, binOp, h4]
  generalize Op.equalIn (9998 + 1 + 1) t (.agg (W.map (Value.int kd)).toArray) (.agg (W.map (Value.int kd)).toArray) = s at *
  simp [h3]
theorem Gets.arrNotSame {len : Nat} {W : List Int} (ho : o.op = .binOp .neq t x y t') (h1 : P.underlying t = some (.array len e)) (h2 : P.underlying e = some (.int kd)) (hsz : (P.info? e).map (·.size) = some 1) (hgt : P.eqGuardType P.depth t = false)
    (hx : ev L x = some (.agg (W.map (Value.int kd)).toArray)) (hy : ev L y = some (.agg (W.map (Value.int kd)).toArray)) (hl : W.length = len) : Gets P n w0 o L H (.bool false) := fun a w hf hs => by
  simp only [execOp, ho, hf.eval hx, hf.eval hy]
  refine run_value ?_
  have h3 := eqIn_arr (P := P) 9998 h1 h2 hsz hl w
  have h4 : ∀ c d : Value, Op.equal t c d = Op.equalIn (9998 + 1 + 1) t c d := fun _ _ => rfl
  simp only [Sem.run_bind, run_noGuard hgt, Result.andThen_ok, binOp, h4]
  generalize Op.equalIn (9998 + 1 + 1) t (.agg (W.map (Value.int kd)).toArray) (.agg (W.map (Value.int kd)).toArray) = s at *
  simp [h3]

/-! ### A slice of the call's own that grows -/
/-- Nothing, or a block whose first cells are the numbers W. -/
def Own (N : Nat) (t : TypeId) (kd : IntKind) (v : Value) (W : List Int) (He : List Ent) : Prop :=
  (v = .slice none 0 0 ∧ W = [] ∧ He = []) ∨ ∃ g cap, v = .slice (some ⟨g, 0, none⟩) W.length cap ∧ He = [⟨g, t, W.map (Value.int kd), cap⟩] ∧ N ≤ g ∧ W.length ≤ cap ∧ cap ≤ maxLen
theorem Own.nil (N : Nat) (t : TypeId) (kd : IntKind) : Own N t kd (.slice none 0 0) [] [] := .inl ⟨rfl, rfl, rfl⟩
theorem St.right {H1 H2 : List Ent} {w : World} (h : St w0 (H1 ++ H2) w) : ∀ e ∈ H2, e.lies w := fun e he => h.has e (by simp [he])
theorem St.regrow {w w' : World} {g : Option Nat} {He He' : List Ent} (h : St w0 (H ++ He) w) (hg : w.grownBy w' g) (h1 : ∀ e ∈ He, some e.g = g) (hN : ∀ b, g = some b → w0.heap.size ≤ b) (hH : ∀ e ∈ H, some e.g ≠ g)
    (h2 : He' = [] ∨ ∃ e, He' = [e] ∧ e.lies w' ∧ w0.heap.size ≤ e.g ∧ (some e.g = g ∨ w.heap.size ≤ e.g)) : St w0 (H ++ He') w' := by
  have hkeep : ∀ e ∈ H, e.lies w' := fun e he => (h.has e (by simp [he])).of_block (hg.block _ (h.has e (by simp [he])).lt (hH e he))
  have hold : ∀ b, b < w0.heap.size → (∀ e ∈ H, e.g ≠ b) → w'.heap[b]? = w0.heap[b]? := by
    intro b hb hne
    have hgb : some b ≠ g := fun hc => by have := hN b hc.symm; omega
    refine (hg.block b (Nat.lt_of_lt_of_le hb h.size) hgb).trans (h.old b hb ?_)
    intro e he
    rcases List.mem_append.1 he with he | he
    · exact hne e he
    · intro hc; exact hgb (hc ▸ h1 e he)
  have hap := (List.pairwise_append.1 h.apart).1
  refine ⟨hg.os.trans h.os, hg.tape.trans h.tape, hg.output.trans h.output, Nat.le_trans h.size hg.size, ?_, ?_, ?_⟩
  · intro e he
    rcases List.mem_append.1 he with he | he
    · exact hkeep e he
    · rcases h2 with rfl | ⟨d, rfl, hd, _⟩
      · cases he
      · rw [List.mem_singleton.1 he]; exact hd
  · exact fun b hb hne => hold b hb fun e he => hne e (by simp [he])
  · rcases h2 with rfl | ⟨d, rfl, _, _, hd⟩
    · simpa using hap
    · rw [List.pairwise_append]
      refine ⟨hap, by simp, ?_⟩
      intro c hc d' hd'
      rw [List.mem_singleton.1 hd']
      intro heq
      rcases hd with hd | hd
      · exact hH c hc (heq ▸ hd)
      · have := (h.has c (by simp [hc])).lt; omega
theorem Own.row {w : World} {N : Nat} {W : List Int} {He : List Ent} (h : Own N t kd v W He) (hs : ∀ e ∈ He, e.lies w) : w.ownsRow N t 1 v W.length (W.map (Value.int kd)) := by
  rcases h with ⟨rfl, rfl, rfl⟩ | ⟨g, cap, rfl, rfl, hN, hc, hm⟩
  · exact ⟨by simp, .inl ⟨rfl, rfl⟩⟩
  · obtain ⟨cur, h1, h2, h3⟩ := hs _ (List.mem_singleton.2 rfl)
    refine ⟨by simp, .inr ⟨g, cap, cur, rfl, hN, h1, hc, hm, by simpa using h2, ?_⟩⟩
    apply List.ext_getElem?
    intro i
    simp only [List.getElem?_take, Nat.mul_one]
    by_cases hi : i < W.length
    · rw [if_pos hi]
      have := h3 i (.int kd (W.getD i 0)) (ints_get hi)
      rw [ints_get hi, Array.getElem?_toList]; exact this
    · rw [if_neg hi, List.getElem?_eq_none (by simp; omega)]
theorem own_of_row {w : World} {N : Nat} {W : List Int} (h : w.ownsRow N t 1 v W.length (W.map (Value.int kd))) : ∃ He, Own N t kd v W He ∧ (He = [] ∨ ∃ e, He = [e] ∧ e.lies w ∧ N ≤ e.g ∧ v.ownBlock = some e.g) := by
  rcases h.2 with ⟨rfl, h0⟩ | ⟨g, cap, cur, rfl, hN, h1, hc, hm, hsz, ht⟩
  · exact ⟨[], .inl ⟨rfl, List.length_eq_zero_iff.1 h0, rfl⟩, .inl rfl⟩
  · refine ⟨[⟨g, t, W.map (Value.int kd), cap⟩], .inr ⟨g, cap, rfl, rfl, hN, hc, hm⟩, .inr ⟨_, rfl, ⟨cur, h1, by simpa using hsz, ?_⟩, hN, rfl⟩⟩
    intro i u hu
    have hi : i < W.length := by have := (List.getElem?_eq_some_iff.1 hu).1; simpa using this
    have h2 : (cur.toList.take (W.length * 1))[i]? = some u := by rw [ht]; exact hu
    simpa [List.getElem?_take, hi] using h2
/-- 'append' of a slice of numbers onto a slice of the call's own. -/
theorem TL.appendOwn {A : Option Addr} {bytes sl sc : Nat} {W B : List Int} {He : List Ent} {zv : Value} (hg : Wants n ops L o) (hi' : inside n o.dst = true) (ho : o.op = .call { callee := .builtin .append, args := #[x, y], argTypes := #[t, t] })
    (h1 : P.underlying t = some (.slice e)) (hz : (P.info? e).map (fun i => (i.zero, i.size, i.bytes)) = some (some zv, 1, bytes)) (hzc : zv.cells = #[zv])
    (hx : ev L x = some v) (hy : ev L y = some (.slice A sl sc)) (hown : Own w0.heap.size e kd v W He) (hsrc : ∀ w, St w0 (H ++ He) w → Src w A sl kd B)
    (h63 : W.length + sl ≤ 9223372036854775807) (hbytes : (W.length + sl) * bytes ≤ 140737488355328)
    (hr : ∀ v' He', Own w0.heap.size e kd v' (W ++ B) He' → (v ≠ .slice none 0 0 → v' ≠ .slice none 0 0) → TL P ops Q n w0 rest (put L o.dst v') (H ++ He')) : TL P ops Q n w0 (o :: rest) L (H ++ He) :=
  fun a w hf hs => wpL_wants hg.nd (hg a hf) fun K hK => by
    obtain ⟨i, hi1, hi2⟩ := Option.map_eq_some_iff.1 hz
    simp only [Prod.mk.injEq] at hi2
    obtain ⟨hz1, hz2, hz3⟩ := hi2
    have hrow := hown.row (w := w) hs.right
    have hB := hsrc w hs
    have hlen : (W ++ B).length = W.length + sl := by simp [hB.1]
    have hmap : (W ++ B).map (Value.int kd) = W.map (Value.int kd) ++ B.map (Value.int kd) := by simp
    have hrun : ∃ v' w', (Builtin.append_ #[t, t] o.type #[v, .slice A sl sc]).run P w = .ok v' w' ∧ w'.ownsRow w0.heap.size e 1 v' (W.length + sl) (W.map (Value.int kd) ++ B.map (Value.int kd)) ∧ w.grownBy w' v.ownBlock ∧
        (v'.ownBlock = v.ownBlock ∨ v'.ownBlock = some w.heap.size) ∧ (v ≠ .slice none 0 0 → v' ≠ .slice none 0 0) := by
      cases A with
      | none =>
        have hsl : sl = 0 := by
          rcases hB.2 with h | ⟨b, off, h, _⟩
          · exact h
          · cases h
        subst hsl
        have hBn : B = [] := List.length_eq_zero_iff.1 hB.1
        subst hBn
        refine ⟨v, w, ?_, by simpa using hrow, World.grownBy.refl w _, .inl rfl, id⟩
        rcases hown with ⟨rfl, rfl, rfl⟩ | ⟨g, cap, rfl, rfl, hN, hc, hm⟩
        · simp [Builtin.append_, Sem.run_bind, run_under h1, sizeOf, run_info hi1, Builtin.lenOf, Builtin.firstCells]
        · simp [Builtin.append_, Sem.run_bind, run_under h1, sizeOf, run_info hi1, Builtin.lenOf, Builtin.firstCells, hc, storeCells]
      | some ad =>
        have hcells : ∀ (j : Nat) (u : Value), (B.map (Value.int kd))[j]? = some u → w.cell? (ad.add j) = some u := by
          intro j u hu
          rcases hB.2 with h | ⟨b, off, h, _, hr⟩
          · have hBn : B = [] := List.length_eq_zero_iff.1 (by rw [hB.1, h])
            subst hBn; simp at hu
          · cases h
            have hj : j < B.length := by have := (List.getElem?_eq_some_iff.1 hu).1; simpa using this
            rw [addr_add, hr j (by rw [← hB.1]; exact hj)]
            rw [ints_get hj] at hu; exact hu
        obtain ⟨v', w', h2, h3, h4, h6, h5⟩ := run_append_own_at (P := P) w w0.heap.size t o.type e i zv 1 bytes h1 hi1 hz1 hz2 hz3 (by rw [hzc]; rfl) (by omega) v W.length (W.map (Value.int kd)) hrow ad sl sc (B.map (Value.int kd)) (by simp [hB.1]) hcells
          (by intro u hu; exact ints_one u hu) (by unfold maxLen; omega) hbytes hs.size
        exact ⟨v', w', h2, h3, h4, h5, fun hv hv' => hv (h6.1 hv').1⟩
    obtain ⟨v', w', hrun, hrow', hgrown, hblk, hnn⟩ := hrun
    have hrun' : (execOp a.eval o).run P w = .ok (.value v') w' := by
      simp only [execOp, ho, resolve, invoke, builtin, Sem.run_bind, Sem.run_pure, Result.andThen_ok, List.map_toArray, List.map_cons, List.map_nil, hf.eval hx, hf.eval hy, hrun]
    unfold Oper.wp; rw [hrun']
    rw [← hmap, ← hlen] at hrow'
    obtain ⟨He', hown', hHe⟩ := own_of_row hrow'
    refine hK _ _ (hr v' He' hown' hnn _ _ (hf.put o.dst _ hi') (St.regrow hs hgrown ?_ ?_ ?_ ?_))
    · rcases hown with ⟨rfl, rfl, rfl⟩ | ⟨g, cap, rfl, rfl, _⟩
      · simp
      · simp [Value.ownBlock]
    · rcases hown with ⟨rfl, rfl, rfl⟩ | ⟨g, cap, rfl, rfl, hN, _⟩
      · simp [Value.ownBlock]
      · simp only [Value.ownBlock]; rintro b hb; cases hb; exact hN
    · rcases hown with ⟨rfl, rfl, rfl⟩ | ⟨g, cap, rfl, rfl, hN, _⟩
      · simp [Value.ownBlock]
      · intro c hc heq
        simp only [Value.ownBlock, Option.some.injEq] at heq
        exact (List.pairwise_append.1 hs.apart).2.2 c hc _ (List.mem_singleton.2 rfl) heq
    · rcases hHe with h | ⟨d, h, hd, hdN, hdv⟩
      · exact .inl h
      · refine .inr ⟨d, h, hd, hdN, ?_⟩
        rcases hblk with hb | hb
        · left; rw [← hdv, hb]
        · right; have := Option.some.inj (hb.symm.trans hdv); omega
/-- A slice of no elements that is not nil. -/
theorem TL.emptySlice {s : Nat} (hg : Wants n ops L o) (hi : inside n o.dst = true) (ho : o.op = .buildSlice t 0 #[]) (h1 : P.underlying t = some (.slice e)) (hsz : (P.info? e).map (·.size) = some s)
    (hr : ∀ g, w0.heap.size ≤ g → TL P ops Q n w0 rest (put L o.dst (.slice (some ⟨g, 0, none⟩) 0 0)) (⟨g, e, [], 0⟩ :: H)) : TL P ops Q n w0 (o :: rest) L H :=
  fun a w hf hs => wpL_wants hg.nd (hg a hf) fun K hK => by
    have hrun : (execOp a.eval o).run P w = .ok (.value (.slice (some ⟨w.heap.size, 0, none⟩) 0 0)) (w.alloc (.cells #[] e)) := by
      simp only [execOp, ho]
      refine run_value ?_
      have hr0 : Array.range 0 = #[] := rfl
      simp [Instr.buildSlice, Sem.run_bind, run_under h1, run_size hsz, Instr.fill, newRow, newObj, Sem.run, hr0]
    unfold Oper.wp; rw [hrun]
    exact hK _ _ (hr _ hs.size _ _ (hf.put o.dst _ hi) (hs.alloc e [] #[] rfl))

/-! ### Strings -/
/-- The bytes of numbers. -/
def bs (l : List Int) : ByteArray := ⟨(l.map fun x => UInt8.ofNat x.toNat).toArray⟩
theorem run_b2s {w : World} {A : Option Addr} {m c : Nat} {B : List Int} (h : Src w A m .u8 B) : (Conv.bytesToString (.slice A m c)).run P w = .ok (.string (bs B)) w := by
  cases A with
  | none =>
    have hm : m = 0 := by
      rcases h.2 with h | ⟨b, off, h, _⟩
      · exact h
      · cases h
    have hB : B = [] := List.length_eq_zero_iff.1 (by rw [h.1, hm])
    subst hB; rfl
  | some ad =>
    have hc := run_cells (P := P) (c := c) h (i := m) (Nat.le_refl _)
    simp only [Builtin.firstCells, Nat.mul_one] at hc
    rw [List.take_of_length_le (by rw [h.1]; exact Nat.le_refl _)] at hc
    rw [run_bytesToString w ad m c B hc]
    have key : ∀ (l : List Int) (acc : ByteArray), l.foldl (fun r n => r.push (UInt8.ofNat n.toNat)) acc = ⟨acc.data ++ (l.map fun x => UInt8.ofNat x.toNat).toArray⟩ := by
      intro l
      induction l with
      | nil => intro acc; simp
      | cons x l ih => intro acc; rw [List.foldl_cons, ih]; simp [ByteArray.push]
    rw [key]
    have he : ByteArray.empty.data = #[] := rfl
    rw [he]
    simp [bs]
theorem Gets.b2s {A : Option Addr} {m c : Nat} {B : List Int} (ho : o.op = .convert t t' x) (h1 : P.underlying t = some (.slice e)) (h2 : P.underlying t' = some .string) (h3 : P.underlying e = some (.int .u8)) (hx : ev L x = some (.slice A m c))
    (hsrc : ∀ w, St w0 H w → Src w A m .u8 B) : Gets P n w0 o L H (.string (bs B)) := fun a w hf hs => by
  simp only [execOp, ho, hf.eval hx]
  refine run_value ?_
  simp only [convert, Sem.run_bind, run_under h1, run_under h2, Result.andThen_ok]
  cases A <;> simp only [Sem.run_bind, run_under h3, Result.andThen_ok] <;> exact run_b2s (hsrc w hs)
theorem src_ent {w : World} {ge t tot m : Nat} {W : List Int} {kd : IntKind} (hl : Ent.lies ⟨ge, t, W.map (Value.int kd), tot⟩ w) (hW : W.length = m) : Src w (some ⟨ge, 0, none⟩) m kd W :=
  ⟨hW, .inr ⟨ge, 0, rfl, hl.lt, fun j hj => by rw [Nat.zero_add]; exact hl.cell (ints_get (by omega))⟩⟩
theorem Gets.congr {u v : Value} (h : Gets P n w0 o L H u) (e : u = v) : Gets P n w0 o L H v := e ▸ h

/-! ### A constant string's bytes: the block is marked, and the world is begun anew -/
theorem frozen_mark {w : World} {g k : Nat} {cur : Array Value} {t0 : TypeId} (h : w.heap[g]? = some (.cells cur t0 (0, 0))) : (w.freeze ⟨g, k, none⟩ 1).heap[g]? = some (.cells cur t0 (k, k + 1)) := by
  unfold World.freeze
  rw [if_neg (by omega)]
  simp [Array.getElem?_modify, h]
theorem TL.mark {i g ln cp : Nat} {ent : Ent} {W : List Int} (hg : Wants n ops L o) (hi' : inside n o.dst = true) (ho : o.op = .convert t t x) (h1 : P.underlying t = some (.slice e)) (h2 : P.underlying e = some (.int .u8))
    (hx : ev L x = some (.slice (some ⟨g, 0, none⟩) ln cp)) (hi : H[i]? = some ent) (he : ent.g = g) (hcs : ent.cs = W.map (Value.int .u8)) (hN : w0.heap.size ≤ g)
    (hr : ∀ w1, St w0 (H.eraseIdx i) w1 → RowI w1 g 0 W.length .u8 W → g < w1.heap.size → TL P ops Q n w1 rest (put L o.dst (.slice (some ⟨g, 0, none⟩) ln cp)) []) : TL P ops Q n w0 (o :: rest) L H :=
  fun a w hf hs => wpL_wants hg.nd (hg a hf) fun K hK => by
    subst he
    obtain ⟨cur, hc1, hc2, hc3⟩ := hs.has ent (List.mem_of_getElem? hi)
    have hsh : w.shape? ent.g = some (ent.t, cur.size) := by simp [World.shape?, hc1]
    have hrun : (execOp a.eval o).run P w = .ok (.value (.slice (some ⟨ent.g, 0, none⟩) ln cp)) (w.freeze ⟨ent.g, cur.size, none⟩ 1) := by
      simp only [execOp, ho, hf.eval hx]
      refine run_value ?_
      simp [convert, Sem.run_bind, run_under h1, run_under h2, markStringish, shape, Sem.run, hsh, freeze]
    unfold Oper.wp; rw [hrun]
    have hother : ∀ b, b ≠ ent.g → (w.freeze ⟨ent.g, cur.size, none⟩ 1).heap[b]? = w.heap[b]? := by
      intro b hb
      unfold World.freeze
      rw [if_neg (by omega)]
      simp [Array.getElem?_modify, hb.symm]
    have hsize : (w.freeze ⟨ent.g, cur.size, none⟩ 1).heap.size = w.heap.size := by
      unfold World.freeze
      rw [if_neg (by omega)]
      simp
    have hmem : ∀ e ∈ H.eraseIdx i, e ∈ H ∧ e.g ≠ ent.g := by
      intro c hc
      rw [List.mem_eraseIdx_iff_getElem?] at hc
      obtain ⟨q, hq, hcq⟩ := hc
      exact ⟨List.mem_of_getElem? hcq, pairwise_ne hs.apart hcq hi hq⟩
    have hst := hs.erase hi hN
    have hst1 : St w0 (H.eraseIdx i) (w.freeze ⟨ent.g, cur.size, none⟩ 1) :=
      ⟨by unfold World.freeze; rw [if_neg (by omega)]; exact hst.os, by unfold World.freeze; rw [if_neg (by omega)]; exact hst.tape, by unfold World.freeze; rw [if_neg (by omega)]; exact hst.output, by rw [hsize]; exact hst.size,
        fun c hc => (hst.has c hc).of_block (hother _ (hmem c hc).2), fun b hb hne => (hother b (by omega)).trans (hst.old b hb hne), hst.apart⟩
    refine hK _ _ (hr _ hst1 ?_ (by rw [hsize]; exact (hs.has ent (List.mem_of_getElem? hi)).lt) _ _ (hf.put o.dst _ hi') (St.refl _))
    intro j hj
    have h4 := hc3 j (.int .u8 (W.getD j 0)) (by rw [hcs]; exact ints_get hj)
    simp [World.cell?, frozen_mark hc1, h4]
theorem ne_app {b : Nat} {He : List Ent} (h : ∀ e ∈ H, e.g ≠ b) (h2 : ∀ e ∈ He, e.g ≠ b) : ∀ e ∈ H ++ He, e.g ≠ b := by
  intro e he
  rcases List.mem_append.1 he with he | he
  · exact h e he
  · exact h2 e he
theorem Own.some {N : Nat} {W : List Int} {He : List Ent} (h : Own N t kd v W He) (hv : v ≠ .slice none 0 0) : ∃ g cap, v = .slice (some ⟨g, 0, none⟩) W.length cap ∧ He = [⟨g, t, W.map (Value.int kd), cap⟩] ∧ N ≤ g ∧ W.length ≤ cap ∧ cap ≤ maxLen := by
  rcases h with ⟨h, _⟩ | h
  · exact absurd h hv
  · exact h
theorem Own.ne {N b : Nat} {W : List Int} {He : List Ent} (h : Own N t kd v W He) (hb : b < N) : ∀ e ∈ He, e.g ≠ b := by
  rcases h with ⟨_, _, rfl⟩ | ⟨g, cap, _, rfl, hN, _⟩
  · intro e he; cases he
  · intro e he; rw [List.mem_singleton.1 he]; show g ≠ b; omega
/-- What the slice of the call's own shows. -/
theorem Own.src {N : Nat} {W : List Int} {He : List Ent} {w : World} (h : Own N t kd v W He) (hs : ∀ e ∈ He, e.lies w) : ∃ A c, v = .slice A W.length c ∧ W.length ≤ c ∧ c ≤ 9223372036854775807 ∧ Src w A W.length kd W := by
  rcases h with ⟨rfl, rfl, rfl⟩ | ⟨g, cap, rfl, rfl, hN, hc, hm⟩
  · exact ⟨none, 0, rfl, Nat.le_refl _, by omega, rfl, .inl rfl⟩
  · exact ⟨_, cap, rfl, hc, by unfold maxLen at hm; omega, src_ent (hs _ (List.mem_singleton.2 rfl)) rfl⟩
theorem Own.form {N : Nat} {W : List Int} {He : List Ent} (h : Own N t kd v W He) : ∃ A c, v = .slice A W.length c ∧ W.length ≤ c ∧ c ≤ 9223372036854775807 := by
  rcases h with ⟨rfl, rfl, rfl⟩ | ⟨g, cap, rfl, rfl, hN, hc, hm⟩
  · exact ⟨none, 0, rfl, Nat.le_refl _, by omega⟩
  · exact ⟨_, cap, rfl, hc, by unfold maxLen at hm; omega⟩
theorem Own.srcOf {N m c : Nat} {A : Option Addr} {W : List Int} {He : List Ent} {w : World} (h : Own N t kd (.slice A m c) W He) (hs : ∀ e ∈ He, e.lies w) : Src w A m kd W := by
  obtain ⟨A', c', h1, _, _, h2⟩ := h.src hs
  cases h1; exact h2
theorem St.left {He : List Ent} {w : World} (h : St w0 (H ++ He) w) (hN : ∀ e ∈ He, w0.heap.size ≤ e.g) : St w0 H w :=
  ⟨h.os, h.tape, h.output, h.size, fun e he => h.has e (by simp [he]), fun b hb hne => h.old b hb (by
    intro e he
    rcases List.mem_append.1 he with he | he
    · exact hne e he
    · have := hN e he; omega), (List.pairwise_append.1 h.apart).1⟩
theorem Own.new {N : Nat} {W : List Int} {He : List Ent} (h : Own N t kd v W He) : ∀ e ∈ He, N ≤ e.g := by
  rcases h with ⟨_, _, rfl⟩ | ⟨g, cap, _, rfl, hN, _⟩
  · intro e he; cases he
  · intro e he; rw [List.mem_singleton.1 he]; exact hN
end
end Go.Proofs.Ytdllgfkcakhoeaa
