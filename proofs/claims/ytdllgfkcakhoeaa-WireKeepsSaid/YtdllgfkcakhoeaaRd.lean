/-
  The reader: its block, its bytes, what its calls leave.
-/
import Derived.Test.YtdllgfkcakhoeaaWirM
import Derived.Test.YtdllgfkcakhoeaaAuto
import Derived.Test.YtdllgfkcakhoeaaMixB
import Derived.Test.YtdllgfkcakhoeaaMk
import Derived.Test.YtdllgfkcakhoeaaRng
namespace Go.Proofs.Ytdllgfkcakhoeaa
set_option linter.unusedVariables false
set_option linter.unusedSimpArgs false
set_option linter.unusedVariables false
open Go Go.RowKit
/-! ### Calls that turn blocks of the caller's and leave new ones -/
theorem St.turns {w0 w w' : World} {H F H' E : List Ent} (h : St w0 (H ++ F) w) (hb : St w (H' ++ E) w') (hg : H'.map Ent.g = H.map Ent.g) (hE : ∀ e ∈ E, w.heap.size ≤ e.g) : St w0 (H' ++ (E ++ F)) w' := by
  have hmem : ∀ d ∈ H', ∃ d' ∈ H, d'.g = d.g := fun d hd => by
    have : d.g ∈ H.map Ent.g := hg ▸ List.mem_map_of_mem hd
    obtain ⟨d', h1, h2⟩ := List.mem_map.1 this
    exact ⟨d', h1, h2⟩
  have hmem2 : ∀ d ∈ H, ∃ d' ∈ H', d'.g = d.g := fun d hd => by
    have : d.g ∈ H'.map Ent.g := hg ▸ List.mem_map_of_mem hd
    obtain ⟨d', h1, h2⟩ := List.mem_map.1 this
    exact ⟨d', h1, h2⟩
  obtain ⟨a1, a2, a3⟩ := List.pairwise_append.1 h.apart
  obtain ⟨b1, b2, b3⟩ := List.pairwise_append.1 hb.apart
  have hF : ∀ f ∈ F, ∀ d ∈ H' ++ E, d.g ≠ f.g := fun f hf d hd => by
    have hlt := (h.has f (List.mem_append_right _ hf)).lt
    rcases List.mem_append.1 hd with hd | hd
    · obtain ⟨d', h1, h2⟩ := hmem d hd
      rw [← h2]; exact a3 d' h1 f hf
    · have := hE d hd; omega
  refine ⟨hb.os.trans h.os, hb.tape.trans h.tape, hb.output.trans h.output, Nat.le_trans h.size hb.size, ?_, ?_, ?_⟩
  · intro e he
    rcases List.mem_append.1 he with he | he
    · exact hb.has e (List.mem_append_left _ he)
    · rcases List.mem_append.1 he with he | he
      · exact hb.has e (List.mem_append_right _ he)
      · have hl := h.has e (List.mem_append_right _ he)
        exact hl.of_block (hb.old _ hl.lt (hF e he))
  · intro b hlt hne
    refine (hb.old b (Nat.lt_of_lt_of_le hlt h.size) fun d hd => ?_).trans (h.old b hlt fun d hd => ?_)
    · rcases List.mem_append.1 hd with hd | hd
      · exact hne d (List.mem_append_left _ hd)
      · exact hne d (List.mem_append_right _ (List.mem_append_left _ hd))
    · rcases List.mem_append.1 hd with hd | hd
      · obtain ⟨d', h1, h2⟩ := hmem2 d hd
        rw [← h2]; exact hne d' (List.mem_append_left _ h1)
      · exact hne d (List.mem_append_right _ (List.mem_append_right _ hd))
  · rw [List.pairwise_append]
    refine ⟨b1, ?_, ?_⟩
    · rw [List.pairwise_append]
      exact ⟨b2, a2, fun d hd f hf => hF f hf d (List.mem_append_right _ hd)⟩
    · intro d hd f hf
      rcases List.mem_append.1 hf with hf | hf
      · exact b3 d hd f hf
      · exact hF f hf d (List.mem_append_left _ hd)
theorem perm_erase {α : Type} {a : α} : ∀ {l : List α} {i : Nat}, l[i]? = some a → (a :: l.eraseIdx i).Perm l
  | [], i, h => by simp at h
  | b :: l, 0, h => by simp at h; subst h; exact List.Perm.refl _
  | b :: l, i + 1, h => by
    simp at h
    exact (List.Perm.swap _ _ _).trans ((perm_erase (l := l) h).cons b)
theorem perm_set {α : Type} {e : α} : ∀ {l : List α} {i : Nat}, i < l.length → (l.set i e).Perm (e :: l.eraseIdx i)
  | [], i, h => by simp at h
  | b :: l, 0, h => List.Perm.refl _
  | b :: l, i + 1, h => ((perm_set (l := l) (by simpa using h)).cons b).trans (List.Perm.swap _ _ _)
/-- A call that turns one block and leaves new ones behind. -/
theorem St.turnE {w0 w w' : World} {H E : List Ent} {i : Nat} {d e : Ent} (h : St w0 H w) (hi : H[i]? = some d) (hg : e.g = d.g) (hb : St w (e :: E) w') (hE : ∀ x ∈ E, w.heap.size ≤ x.g) : St w0 (H.set i e ++ E) w' := by
  obtain ⟨hlt, hd⟩ := List.getElem?_eq_some_iff.1 hi
  have h1 : (d :: H.eraseIdx i).Perm H := perm_erase hi
  have h2 : (H.set i e).Perm (e :: H.eraseIdx i) := perm_set hlt
  have h3 := St.turns (H := [d]) (F := H.eraseIdx i) (H' := [e]) (E := E) (h.perm h1.symm) hb (by simp [hg]) hE
  refine h3.perm ?_
  have h4 : ([e] ++ (E ++ H.eraseIdx i)).Perm ([e] ++ (H.eraseIdx i ++ E)) := List.Perm.append_left _ List.perm_append_comm
  refine h4.trans ?_
  rw [← List.append_assoc]
  exact List.Perm.append_right _ h2.symm
theorem St.assoc3 {w0 w : World} {X Y Z : List Ent} (h : St w0 ((X ++ Y) ++ Z) w) : St w0 (X ++ (Y ++ Z)) w := by rw [List.append_assoc] at h; exact h
/-- A block of which all cells are known, and which has come out as it was. -/
theorem St.same {w w' : World} {e : Ent} (h : St w [e] w') (hl : e.lies w) (hn : e.cs.length = e.tot) : St w [] w' := by
  have key : ∀ {u : World}, e.lies u → u.heap[e.g]? = some (.cells e.cs.toArray e.t (0, 0)) := fun {u} hu => by
    obtain ⟨cur, h1, h2, h3⟩ := hu
    rw [h1]
    have : cur = e.cs.toArray := by
      apply Array.ext_getElem?
      intro i
      by_cases hi : i < e.cs.length
      · rw [h3 i _ (List.getElem?_eq_getElem hi)]; simp [hi]
      · rw [Array.getElem?_eq_none (by omega)]; simp; omega
    rw [this]
  refine ⟨h.os, h.tape, h.output, h.size, by simp, fun b hb _ => ?_, .nil⟩
  by_cases hbg : b = e.g
  · subst hbg
    rw [key (h.has e (by simp)), key hl]
  · exact h.old b hb (fun d hd => by rw [List.mem_singleton.1 hd]; exact fun x => hbg x.symm)
/-- Less is known of a block. -/
theorem St.blank {w0 w : World} {g t tot : Nat} {cs : List Value} {H : List Ent} (h : St w0 (⟨g, t, cs, tot⟩ :: H) w) : St w0 (⟨g, t, [], tot⟩ :: H) w := by
  refine ⟨h.os, h.tape, h.output, h.size, fun e he => ?_, fun b hb hne => h.old b hb fun e he => ?_, ?_⟩
  · rcases List.mem_cons.1 he with rfl | he
    · obtain ⟨cur, h1, h2, h3⟩ := h.has ⟨g, t, cs, tot⟩ List.mem_cons_self
      exact ⟨cur, h1, h2, fun j u hu => by simp at hu⟩
    · exact h.has e (List.mem_cons_of_mem _ he)
  · rcases List.mem_cons.1 he with rfl | he
    · exact hne ⟨g, t, [], tot⟩ List.mem_cons_self
    · exact hne e (List.mem_cons_of_mem _ he)
  · have := List.pairwise_cons.1 h.apart
    exact .cons this.1 this.2
/-! ### Bytes that lie beside some blocks -/
def SrcX (w : World) (X : List Nat) (A : Option Addr) (m : Nat) (kd : IntKind) (B : List Int) : Prop := B.length = m ∧ (m = 0 ∨ ∃ b off, A = some ⟨b, off, none⟩ ∧ b < w.heap.size ∧ (∀ x ∈ X, b ≠ x) ∧ RowI w b off m kd B)
section
variable {w0 w : World} {g m : Nat} {A : Option Addr} {kd : IntKind} {B : List Int} {H : List Ent} {X Y : List Nat}
theorem SrcX.at_ (h : SrcX w0 X A m kd B) (hs : St w0 H w) (hH : ∀ b, b < w0.heap.size → (∀ x ∈ X, b ≠ x) → ∀ e ∈ H, e.g ≠ b) : SrcX w X A m kd B := by
  obtain ⟨h1, h2⟩ := h
  refine ⟨h1, ?_⟩
  rcases h2 with h2 | ⟨b, off, hA, hb, hne, hr⟩
  · exact .inl h2
  · exact .inr ⟨b, off, hA, Nat.lt_of_lt_of_le hb hs.size, hne, fun j hj => (hs.old_cell (ad := ⟨b, off + j, none⟩) hb (hH b hb hne)).trans (hr j hj)⟩
theorem SrcX.src (h : SrcX w X A m kd B) : Src w A m kd B := by
  obtain ⟨h1, h2⟩ := h
  refine ⟨h1, ?_⟩
  rcases h2 with h2 | ⟨b, off, hA, hb, hne, hr⟩
  · exact .inl h2
  · exact .inr ⟨b, off, hA, hb, hr⟩
theorem SrcX.sub (h : SrcX w X A m kd B) (hY : ∀ y ∈ Y, y ∈ X) : SrcX w Y A m kd B := by
  obtain ⟨h1, h2⟩ := h
  refine ⟨h1, ?_⟩
  rcases h2 with h2 | ⟨b, off, hA, hb, hne, hr⟩
  · exact .inl h2
  · exact .inr ⟨b, off, hA, hb, fun y hy => hne y (hY y hy), hr⟩
theorem SrcX.more (h : SrcX w X A m kd B) (hg : w.heap.size ≤ g) : SrcX w (g :: X) A m kd B := by
  obtain ⟨h1, h2⟩ := h
  refine ⟨h1, ?_⟩
  rcases h2 with h2 | ⟨b, off, hA, hb, hne, hr⟩
  · exact .inl h2
  · refine .inr ⟨b, off, hA, hb, fun x hx => ?_, hr⟩
    rcases List.mem_cons.1 hx with rfl | hx
    · omega
    · exact hne x hx
theorem SrcX.head (h : SrcX w X A m kd B) {n : Nat} (hl : n ≤ m) : SrcX w X A n kd (B.take n) := by
  obtain ⟨h1, h2⟩ := h
  refine ⟨by simp; omega, ?_⟩
  rcases h2 with h2 | ⟨b, off, hA, hb, hne, hr⟩
  · exact .inl (by omega)
  · refine .inr ⟨b, off, hA, hb, hne, fun j hj => ?_⟩
    rw [hr j (by omega)]
    simp [List.getD_eq_getElem?_getD, List.getElem?_take, hj]
theorem SrcX.drop {c l : Nat} (h : SrcX w X A m kd B) (hl : l ≤ m) (hc : m ≤ c) : SrcX w X (cutA A c l 1) (m - l) kd (B.drop l) := by
  obtain ⟨h1, h2⟩ := h
  refine ⟨by simp [h1], ?_⟩
  rcases h2 with h2 | ⟨b, off, hA, hb, hne, hr⟩
  · exact .inl (by omega)
  · by_cases hlm : l = m
    · exact .inl (by omega)
    · subst hA
      refine .inr ⟨b, off + l, by rw [cut_is (o' := off + l) (by omega) (by omega)], hb, hne, fun j hj => ?_⟩
      have := hr (l + j) (by omega)
      rw [← Nat.add_assoc] at this
      rw [this]
      simp [List.getD_eq_getElem?_getD, List.getElem?_drop]
theorem Src.toX (h : Src w A m kd B) (hne : ∀ b off, A = some ⟨b, off, none⟩ → ∀ x ∈ X, b ≠ x) : SrcX w X A m kd B := by
  obtain ⟨h1, h2⟩ := h
  refine ⟨h1, ?_⟩
  rcases h2 with h2 | ⟨b, off, hA, hb, hr⟩
  · exact .inl h2
  · exact .inr ⟨b, off, hA, hb, hne b off hA, hr⟩
theorem Src.toX0 (h : Src w A m kd B) : SrcX w [] A m kd B := h.toX (fun _ _ _ x hx => by cases hx)
theorem Own.srcX {N t c : Nat} {He : List Ent} (h : Own N t kd (.slice A m c) B He) (hs : ∀ e ∈ He, e.lies w) (hne : ∀ e ∈ He, ∀ x ∈ X, e.g ≠ x) : SrcX w X A m kd B := by
  refine Src.toX (h.srcOf hs) fun b off hA => ?_
  rcases h with ⟨h1, _⟩ | ⟨g', cap, h1, h2, _⟩
  · cases h1; cases hA
  · cases h1; cases hA
    exact hne _ (by rw [h2]; exact List.mem_singleton.2 rfl)
theorem St.beside {F : List Ent} {d : Ent} (h : St w0 (H ++ F) w) (hd : d ∈ H) : ∀ e ∈ F, e.g ≠ d.g := fun e he => ((List.pairwise_append.1 h.apart).2.2 d hd e he).symm
theorem calls_no {Pr : Program} {f : FuncId} {args : Array Value} {w : World} {p : Prop} [Decidable p] (hp : ¬ p) (h : Calls Pr f args w fun e w' => e = .returned (.bool (decide p)) ∧ St w [] w') : Calls Pr f args w fun e w' => e = .returned (.bool false) ∧ St w [] w' := by
  rw [decide_eq_false hp] at h; exact h
theorem Gets.ptrNe {P : Program} {n : Sz} {L : List (Nat × Value)} {o : Oper} {x y : Operand} {t t' e : TypeId} {ad : Addr} (ho : o.op = .binOp .neq t x y t') (h1 : P.underlying t = some (.pointer e)) (hx : ev L x = some (.pointer (some ad))) (hy : ev L y = some (.pointer none)) : Gets P n w0 o L H (.bool true) := fun ac w hf hs => by
  simp only [execOp, ho, hf.eval hx, hf.eval hy]
  refine run_value ?_
  have h3 := eqIn_pn (P := P) (t := t) (ad := ad) 9999 h1 w
  have h4 : ∀ c d : Value, Op.equal t c d = Op.equalIn (9999 + 1) t c d := fun _ _ => rfl
  simp only [eqGuard, Sem.run_bind, Sem.run_pure, Result.andThen_ok, binOp, h4]
  generalize Op.equalIn (9999 + 1) t (.pointer (some ad)) (.pointer none) = s at *
  simp [h3]
theorem Gets.boolNe {P : Program} {n : Sz} {L : List (Nat × Value)} {o : Oper} {x y : Operand} {t t' : TypeId} {b c : Bool} (ho : o.op = .binOp .neq t x y t') (h1 : P.underlying t = some .bool) (hx : ev L x = some (.bool b)) (hy : ev L y = some (.bool c)) : Gets P n w0 o L H (.bool (b != c)) := fun ac w hf hs => by
  simp only [execOp, ho, hf.eval hx, hf.eval hy]
  refine run_value ?_
  have h3 := eqIn_bb (P := P) (t := t) 9999 (b := b) (c := c) h1 w
  have h4 : ∀ c d : Value, Op.equal t c d = Op.equalIn (9999 + 1) t c d := fun _ _ => rfl
  simp only [eqGuard, Sem.run_bind, Sem.run_pure, Result.andThen_ok, binOp, h4]
  generalize Op.equalIn (9999 + 1) t (.bool b) (.bool c) = s at *
  cases b <;> cases c <;> simp at h3 ⊢ <;> simp [h3]
theorem TP.call0 {P : Program} {ops : Array Oper} {Q : Exit → Act → World → Prop} {n : Sz} {L : List (Nat × Value)} {HB : List Ent} {ks : List Nat} {o : Oper} {rest : List Oper} {f : FuncId} {xs : List Operand} {ts : Array TypeId} {vs : List Value} {v : Value} (hg : Wants n ops L o) (hi : inside n o.dst = true) (h : Enters P f)
    (ho : o.op = .call { callee := .value (.func f), args := xs.toArray, argTypes := ts }) (hx : evs L xs = some vs)
    (hc : ∀ w, St w0 (HB ++ H) w → Calls P f vs.toArray w fun e w' => e = .returned v ∧ St w [] w')
    (hr : TP P ops Q n w0 HB ks rest (put L o.dst v) H) : TP P ops Q n w0 HB (3 :: ks) (o :: rest) L H :=
  TP.call (ι := Unit) (V := fun _ => v) (R := fun _ => True) (H' := fun _ => H) hg hi h ho hx (fun w hs => (hc w hs).mono fun e w' ⟨he, hw⟩ => ⟨(), he, trivial, hs.call' hw⟩) fun _ _ => hr
theorem St.one {e e' : Ent} (h : St w0 [e] w) (he : e = e') : St w0 [e'] w := he ▸ h
end
/-! ### The reader's cells -/
def rdC (A : Option Addr) (m c k : Nat) (co po : Int) : List Value := [.slice A m c, .int .i64 (k : Int), .int .i64 co, .int .i64 po]
def rdN : Nat := 4
/-! ### Numbers of bytes -/
theorem valB_natR : ∀ {B : List Int}, Bytes B → ∃ v : Nat, valB B.reverse = (v : Int) ∧ v < 256 ^ B.length
  | [], _ => ⟨0, rfl, by simp⟩
  | b :: l, h => by
    obtain ⟨v, h1, h2⟩ := valB_natR (B := l) (fun x hx => h x (List.mem_cons_of_mem _ hx))
    have hb := h b List.mem_cons_self
    obtain ⟨c, rfl⟩ := Int.eq_ofNat_of_zero_le hb.1
    refine ⟨256 * v + c, by rw [List.reverse_cons, valB_snoc, h1]; omega, ?_⟩
    rw [List.length_cons, Nat.pow_succ]
    omega
theorem valB_nat {B : List Int} (h : Bytes B) : ∃ v : Nat, valB B = (v : Int) ∧ v < 256 ^ B.length := by
  have := valB_natR (B := B.reverse) (fun x hx => h x (List.mem_reverse.1 hx))
  rw [List.reverse_reverse, List.length_reverse] at this; exact this
theorem valB_bd {B : List Int} (h : Bytes B) (hl : B.length ≤ 8) : 0 ≤ valB B ∧ valB B ≤ 18446744073709551615 := by
  obtain ⟨v, h1, h2⟩ := valB_nat h
  have : (256 : Nat) ^ B.length ≤ 256 ^ 8 := Nat.pow_le_pow_right (by decide) hl
  have h3 : (256 : Nat) ^ 8 = 18446744073709551616 := by decide
  omega
theorem wrap64_nat {y : Nat} (h : y < 18446744073709551616) : IntKind.u64.wrap (y : Int) = (y : Int) := by
  simp [IntKind.wrap, IntKind.signed, IntKind.bits]; omega
theorem shl_or {a b : Nat} (ha : a < 72057594037927936) (hb : b < 256) : orI .u64 (shlI .u64 (a : Int) 8) (b : Int) = ((256 * a + b : Nat) : Int) := by
  have h1 : shlI .u64 (a : Int) 8 = ((a * 256 : Nat) : Int) := by
    unfold shlI
    have : ((a : Int) * 2 ^ min (Int.toNat 8) IntKind.u64.bits) = ((a * 256 : Nat) : Int) := by
      rw [show min (Int.toNat 8) IntKind.u64.bits = 8 from rfl]; omega
    rw [this, wrap64_nat (by omega)]
  rw [h1]
  unfold orI
  have h3 : a * 256 ||| b = 256 * a + b := by
    have := Nat.shiftLeft_add_eq_or_of_lt (i := 8) (b := b) hb a
    rw [Nat.shiftLeft_eq] at this
    rw [show a * 256 = a * 2 ^ 8 by rfl, ← this]; omega
  have h4 : ((BitVec.ofInt 64 ((a * 256 : Nat) : Int) ||| BitVec.ofInt 64 (b : Int)).toNat) = 256 * a + b := by
    rw [BitVec.ofInt_natCast, BitVec.ofInt_natCast, BitVec.toNat_or, BitVec.toNat_ofNat, BitVec.toNat_ofNat, Nat.mod_eq_of_lt (by omega), Nat.mod_eq_of_lt (by omega), h3]
  show IntKind.u64.wrap (((BitVec.ofInt 64 ((a * 256 : Nat) : Int) ||| BitVec.ofInt 64 (b : Int)).toNat : Nat) : Int) = _
  rw [h4, wrap64_nat (by omega)]
theorem valB_step {D : List Int} {i : Nat} (hB : Bytes D) (hi : i < D.length) (h8 : D.length ≤ 8) : orI .u64 (shlI .u64 (valB (D.take i)) 8) (D.getD i 0) = valB (D.take (i + 1)) := by
  obtain ⟨v, h1, h2⟩ := valB_nat (hB.take i)
  have hl : (D.take i).length = i := by simp; omega
  rw [hl] at h2
  have h3 : (256 : Nat) ^ i ≤ 256 ^ 7 := Nat.pow_le_pow_right (by decide) (by omega)
  have h4 : (256 : Nat) ^ 7 = 72057594037927936 := by decide
  have hb := hB.get i
  obtain ⟨b, hb2⟩ := Int.eq_ofNat_of_zero_le hb.1
  rw [take_snoc hi, valB_snoc, h1, hb2, shl_or (by omega) (by omega)]; omega
theorem valB_nil : valB [] = 0 := rfl
/-! ### The length of a number -/
def lenB (x : Nat) : Nat := if x = 0 then 0 else Nat.log2 x + 1
def lenI (x : Int) : Int := (lenB x.toNat : Int)
theorem lenB_le {x q : Nat} : lenB x ≤ q ↔ x < 2 ^ q := by
  unfold lenB
  by_cases h : x = 0
  · subst h; simp [Nat.pow_pos]
  · rw [if_neg h, ← Nat.log2_lt h]; omega
theorem lenB_shr {x y s : Nat} (h : 2 ^ s ≤ x) (hy : y = x / 2 ^ s) : lenB x = lenB y + s := by
  have h2 : 0 < 2 ^ s := Nat.pow_pos (by decide)
  apply Nat.le_antisymm
  · rw [lenB_le, Nat.pow_add]
    have h1 : y < 2 ^ lenB y := lenB_le.1 (Nat.le_refl _)
    subst hy
    exact (Nat.div_lt_iff_lt_mul h2).1 h1
  · have h1 : x < 2 ^ lenB x := lenB_le.1 (Nat.le_refl _)
    have hs : s ≤ lenB x := by
      apply Nat.le_of_not_lt
      intro hlt
      have := Nat.pow_le_pow_right (n := 2) (by decide) (Nat.le_of_lt hlt)
      omega
    have h3 : lenB y ≤ lenB x - s := by
      rw [lenB_le]
      subst hy
      rw [Nat.div_lt_iff_lt_mul h2, ← Nat.pow_add, Nat.sub_add_cancel hs]; exact h1
    omega
theorem len_fit {x n : Int} (hx : 0 ≤ x ∧ x ≤ 18446744073709551615) (hn : 1 ≤ n ∧ n ≤ 8) : 8 * n < lenI x ↔ ¬ fitV x n := by
  obtain ⟨y, rfl⟩ := Int.eq_ofNat_of_zero_le hx.1
  obtain ⟨k, rfl⟩ := Int.eq_ofNat_of_zero_le (show 0 ≤ n by omega)
  unfold lenI fitV
  rw [Int.toNat_natCast]
  have h1 : (8 * (k : Int)) = ((8 * k : Nat) : Int) := by omega
  rw [h1, shr_nat (by omega)]
  have h2 := lenB_le (x := y) (q := 8 * k)
  have h3 : y / 2 ^ (8 * k) = 0 ↔ y < 2 ^ (8 * k) := Nat.div_eq_zero_iff_lt (Nat.pow_pos (by decide))
  have h4 : k = 8 → y < 2 ^ (8 * k) := fun h => by subst h; omega
  constructor
  · rintro h ⟨h5, h6, h7⟩
    have h8 : ¬ y < 2 ^ (8 * k) := fun h9 => by have := h2.2 h9; omega
    rcases h7 with h7 | h7
    · exact h8 (h4 (by omega))
    · exact h8 (h3.1 (by omega))
  · intro h
    apply Int.lt_of_not_ge
    intro hge
    have h9 := h2.1 (by omega)
    exact h ⟨by omega, by omega, .inr (by have := h3.2 h9; omega)⟩
/-! ### Prefixes -/
theorem pre_take {P D : List Int} {m : Nat} (h : D.length = m) : P.take m = D ↔ D <+: P := by
  subst h
  rw [List.prefix_iff_eq_take]; exact eq_comm
end Go.Proofs.Ytdllgfkcakhoeaa
