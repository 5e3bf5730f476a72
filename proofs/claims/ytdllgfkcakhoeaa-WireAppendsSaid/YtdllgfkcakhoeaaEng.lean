/-
  A small logic of steps: what the slots hold is a list, what the call's own blocks hold is a list; one rule for each operation.
-/
import Derived.Test.YtdllgfkcakhoeaaLin
import Derived.WalkKit
import Derived.TacticsIn
import Derived.CallsIn
import Derived.AtR
import Derived.WalkSpells
import Derived.Maps.AppendAt
import Derived.Lib.Hide
namespace Go.Proofs.Ytdllgfkcakhoeaa
set_option linter.unusedVariables false
set_option linter.unusedSimpArgs false
open Go Go.RowKit

/-! ### Blocks -/
structure Ent where
  g : Nat
  t : TypeId
  cs : List Value
  tot : Nat

def Ent.lies (e : Ent) (w : World) : Prop := ∃ cur : Array Value, w.heap[e.g]? = some (.cells cur e.t (0, 0)) ∧ cur.size = e.tot ∧ ∀ (j : Nat) (u : Value), e.cs[j]? = some u → cur[j]? = some u

structure St (w0 : World) (H : List Ent) (w : World) : Prop where
  os : w.os = w0.os
  tape : w.tape = w0.tape
  output : w.output = w0.output
  size : w0.heap.size ≤ w.heap.size
  has : ∀ e ∈ H, e.lies w
  old : ∀ b, b < w0.heap.size → (∀ e ∈ H, e.g ≠ b) → w.heap[b]? = w0.heap[b]?
  apart : H.Pairwise fun d e => d.g ≠ e.g

section
variable {w0 w w' : World} {H : List Ent} {e : Ent}
theorem Ent.lies.lt (h : e.lies w) : e.g < w.heap.size := by
  obtain ⟨cur, h, _⟩ := h
  exact (Array.getElem?_eq_some_iff.1 h).1
theorem Ent.lies.of_block (h : e.lies w) (hb : w'.heap[e.g]? = w.heap[e.g]?) : e.lies w' := by
  obtain ⟨cur, h1, h2⟩ := h
  exact ⟨cur, hb.trans h1, h2⟩
theorem Ent.lies.cell (h : e.lies w) {o : Nat} {v : Value} (hv : e.cs[o]? = some v) : w.cell? ⟨e.g, o, none⟩ = some v := by
  obtain ⟨cur, h1, _, h3⟩ := h
  simp [World.cell?, h1, h3 o v hv]
theorem Ent.lies.free (h : e.lies w) (o : Nat) : w.frozen? ⟨e.g, o, none⟩ = false := by
  obtain ⟨cur, h1, _⟩ := h
  simp [World.frozen?, h1]
theorem St.refl (w : World) : St w [] w := ⟨rfl, rfl, rfl, Nat.le_refl _, by simp, fun _ _ _ => rfl, .nil⟩
theorem St.drew (h : St w0 H w) : St w0 H w.drew := ⟨h.os, h.tape, h.output, h.size, fun e he => (h.has e he).of_block rfl, h.old, h.apart⟩
theorem St.below (h : St w0 [] w) : Below w0.heap.size w0 w := ⟨h.os, h.tape, h.output, h.size, fun b hb => h.old b hb (by simp)⟩
theorem St.of_below (h : Below w0.heap.size w0 w) : St w0 [] w := ⟨h.os, h.tape, h.output, h.size, by simp, fun b hb _ => h.block b hb, .nil⟩

/-- Behind a call that leaves all blocks as they were. -/
theorem St.call (h : St w0 H w) (hb : Below w.heap.size w w') : St w0 H w' :=
  ⟨hb.os.trans h.os, hb.tape.trans h.tape, hb.output.trans h.output, Nat.le_trans h.size hb.size,
    fun e he => (h.has e he).of_block (hb.block _ (h.has e he).lt),
    fun b hlt hne => (hb.block b (Nat.lt_of_lt_of_le hlt h.size)).trans (h.old b hlt hne), h.apart⟩
theorem St.call' (h : St w0 H w) (hb : St w [] w') : St w0 H w' := h.call hb.below

/-- Behind a call that leaves one new block. -/
theorem St.made (h : St w0 H w) (hb : St w [e] w') (hn : w.heap.size ≤ e.g) : St w0 (e :: H) w' :=
  ⟨hb.os.trans h.os, hb.tape.trans h.tape, hb.output.trans h.output, Nat.le_trans h.size hb.size,
    fun d hd => by
      rcases List.mem_cons.1 hd with rfl | hd
      · exact hb.has _ (by simp)
      · exact (h.has d hd).of_block (hb.old _ (h.has d hd).lt (by intro c hc; simp at hc; rw [hc]; have := (h.has d hd).lt; omega)),
    fun b hlt hne => (hb.old b (Nat.lt_of_lt_of_le hlt h.size) (by intro c hc; simp at hc; rw [hc]; exact hne _ (by simp))).trans (h.old b hlt fun d hd => hne d (by simp [hd])),
    .cons (fun d hd => by have := (h.has d hd).lt; omega) h.apart⟩

theorem set_mem {α : Type} {l : List α} {i : Nat} {x d : α} (h : d ∈ l.set i x) : d = x ∨ ∃ j, j ≠ i ∧ l[j]? = some d := by
  obtain ⟨j, hj, rfl⟩ := List.getElem_of_mem h
  by_cases hij : i = j
  · subst hij; left; simp
  · right
    refine ⟨j, fun e => hij e.symm, ?_⟩
    rw [List.getElem_set_ne hij]
    simp at hj
    simp [hj]
theorem pairwise_ne {l : List Ent} (hp : l.Pairwise fun d e => d.g ≠ e.g) {i j : Nat} {d e : Ent} (hd : l[i]? = some d) (he : l[j]? = some e) (hij : i ≠ j) : d.g ≠ e.g := by
  obtain ⟨hi, rfl⟩ := List.getElem?_eq_some_iff.1 hd
  obtain ⟨hj, rfl⟩ := List.getElem?_eq_some_iff.1 he
  rcases Nat.lt_or_gt_of_ne hij with h | h
  · exact List.pairwise_iff_getElem.1 hp i j hi hj h
  · exact fun e => List.pairwise_iff_getElem.1 hp j i hj hi h e.symm

/-- One block has turned, and it is an entry's. -/
theorem St.turned {i : Nat} {d : Ent} (h : St w0 H w) (hi : H[i]? = some d) (hg : e.g = d.g) (he : e.lies w')
    (hos : w'.os = w.os) (htape : w'.tape = w.tape) (hout : w'.output = w.output) (hsize : w.heap.size ≤ w'.heap.size)
    (hb : ∀ b, b < w.heap.size → b ≠ d.g → w'.heap[b]? = w.heap[b]?) : St w0 (H.set i e) w' := by
  have hil : i < H.length := (List.getElem?_eq_some_iff.1 hi).1
  refine ⟨hos.trans h.os, htape.trans h.tape, hout.trans h.output, Nat.le_trans h.size hsize, ?_, ?_, ?_⟩
  · intro c hc
    rcases set_mem hc with rfl | ⟨j, hj, hcj⟩
    · exact he
    · have hcl := h.has c (List.mem_of_getElem? hcj)
      exact hcl.of_block (hb _ hcl.lt (pairwise_ne h.apart hcj hi hj))
  · intro b hlt hne
    have hed : b ≠ d.g := by
      intro hbd
      exact hne e (List.mem_of_getElem? (i := i) (by simp [hil])) (by rw [hg, hbd])
    refine (hb b (Nat.lt_of_lt_of_le hlt h.size) hed).trans (h.old b hlt ?_)
    intro c hc
    obtain ⟨j, hj, rfl⟩ := List.getElem_of_mem hc
    by_cases hij : i = j
    · subst hij
      have : d = H[i] := by rw [List.getElem?_eq_getElem hil] at hi; exact (Option.some.inj hi).symm
      rw [← this]; exact fun e => hed e.symm
    · exact hne _ (List.mem_of_getElem? (i := j) (by rw [List.getElem?_set_ne hij, List.getElem?_eq_getElem hj]))
  · rw [List.pairwise_iff_getElem]
    intro p q hp hq hpq
    simp only [List.length_set] at hp hq
    rw [List.getElem_set, List.getElem_set]
    by_cases h1 : i = p
    · subst h1
      rw [if_pos rfl, if_neg (by omega), hg]
      exact pairwise_ne h.apart hi (List.getElem?_eq_getElem hq) (by omega)
    · rw [if_neg h1]
      by_cases h2 : i = q
      · subst h2
        rw [if_pos rfl, hg]
        exact pairwise_ne h.apart (List.getElem?_eq_getElem hp) hi (by omega)
      · rw [if_neg h2]
        exact pairwise_ne h.apart (List.getElem?_eq_getElem hp) (List.getElem?_eq_getElem hq) (by omega)

/-- Behind a call that turns one block, an entry's. -/
theorem St.turn {i : Nat} {d : Ent} (h : St w0 H w) (hi : H[i]? = some d) (hg : e.g = d.g) (hb : St w [e] w') : St w0 (H.set i e) w' :=
  h.turned hi hg (hb.has e (by simp)) hb.os hb.tape hb.output hb.size fun b hlt hne => hb.old b hlt (by intro c hc; simp at hc; rw [hc, hg]; exact fun e => hne e.symm)

theorem St.turn0 {d : Ent} (h : St w0 (d :: H) w) (hb : St w [e] w') (hg : e.g = d.g) : St w0 (e :: H) w' := St.turn (i := 0) h rfl hg hb
theorem St.turn1 {c d : Ent} (h : St w0 (c :: d :: H) w) (hb : St w [e] w') (hg : e.g = d.g) : St w0 (c :: e :: H) w' := St.turn (i := 1) h rfl hg hb
/-- One block has turned, which was the call's own and is no entry's any more; or it is a block of which nothing is known. -/
theorem St.drop (h : St w0 (e :: H) w) (hn : w0.heap.size ≤ e.g) : St w0 H w :=
  ⟨h.os, h.tape, h.output, h.size, fun d hd => h.has d (by simp [hd]), fun b hlt hne => h.old b hlt (by
    intro c hc
    rcases List.mem_cons.1 hc with rfl | hc
    · omega
    · exact hne c hc), (List.pairwise_cons.1 h.apart).2⟩
theorem St.erase {i : Nat} {d : Ent} (h : St w0 H w) (hi : H[i]? = some d) (hn : w0.heap.size ≤ d.g) : St w0 (H.eraseIdx i) w := by
  have hsub : (H.eraseIdx i).Sublist H := List.eraseIdx_sublist ..
  refine ⟨h.os, h.tape, h.output, h.size, fun d hd => h.has d (hsub.subset hd), fun b hlt hne => h.old b hlt ?_, h.apart.sublist hsub⟩
  intro c hc
  obtain ⟨j, hj, rfl⟩ := List.getElem_of_mem hc
  by_cases hij : j = i
  · subst hij
    rw [List.getElem?_eq_getElem hj] at hi
    cases hi; omega
  · exact hne _ (by rw [List.mem_eraseIdx_iff_getElem?]; exact ⟨j, hij, List.getElem?_eq_getElem hj⟩)

theorem St.alloc (h : St w0 H w) (t : TypeId) (cs : List Value) (arr : Array Value) (ha : arr.toList = cs) : St w0 (⟨w.heap.size, t, cs, cs.length⟩ :: H) (w.alloc (.cells arr t)) := by
  have hold : ∀ b, b < w.heap.size → (w.alloc (.cells arr t)).heap[b]? = w.heap[b]? := fun b hb => Below.heap_alloc w _ b hb
  refine ⟨h.os, h.tape, h.output, by simp; have := h.size; omega, ?_, ?_, ?_⟩
  · intro d hd
    rcases List.mem_cons.1 hd with rfl | hd
    · subst ha
      exact ⟨arr, heap_alloc_new w _, by simp, fun j u hu => by simpa using hu⟩
    · exact (h.has d hd).of_block (hold _ (h.has d hd).lt)
  · intro b hb hne
    exact (hold b (Nat.lt_of_lt_of_le hb h.size)).trans (h.old b hb fun d hd => hne d (by simp [hd]))
  · exact .cons (fun d hd => by have := (h.has d hd).lt; simp; omega) h.apart

theorem lies_set (h : e.lies w) (o : Nat) (v : Value) : Ent.lies ⟨e.g, e.t, e.cs.set o v, e.tot⟩ (w.setCell ⟨e.g, o, none⟩ v) := by
  obtain ⟨cur, h1, h2, h3⟩ := h
  refine ⟨cur.setIfInBounds o v, by simp [World.setCell, Array.getElem?_modify, h1], by simpa using h2, ?_⟩
  intro j u hj
  simp only [List.getElem?_set] at hj
  rw [Array.getElem?_setIfInBounds]
  split at hj
  · rename_i hoj
    subst hoj
    split at hj
    · rename_i hlt
      have := h3 o _ (List.getElem?_eq_getElem hlt)
      have hlt2 : o < cur.size := (Array.getElem?_eq_some_iff.1 this).1
      simpa [hlt2] using hj
    · cases hj
  · rename_i hoj
    rw [if_neg hoj]; exact h3 j u hj

theorem St.set {i : Nat} (h : St w0 H w) (hi : H[i]? = some e) (o : Nat) (v : Value) : St w0 (H.set i ⟨e.g, e.t, e.cs.set o v, e.tot⟩) (w.setCell ⟨e.g, o, none⟩ v) :=
  h.turned hi rfl (lies_set (h.has e (List.mem_of_getElem? hi)) o v) rfl rfl rfl (by simp) fun b _ hne => Below.heap_setCell w _ v b hne

/-- A block from before of which no entry speaks. -/
theorem St.old_cell (h : St w0 H w) {ad : Addr} (hb : ad.block < w0.heap.size) (hne : ∀ e ∈ H, e.g ≠ ad.block) : w.cell? ad = w0.cell? ad := World.cell?_of_block (h.old _ hb hne)
theorem ne_nil {b : Nat} : ∀ e ∈ ([] : List Ent), e.g ≠ b := by simp
theorem ne_cons {b : Nat} (h : e.g ≠ b) (hH : ∀ d ∈ H, d.g ≠ b) : ∀ d ∈ e :: H, d.g ≠ b := by simp; exact ⟨h, hH⟩
end

/-! ### Slots -/
def look : List (Nat × Value) → Nat → Option Value
  | [], _ => none
  | (j, v) :: r, i => bif Nat.beq i j then some v else look r i

/-- How a piece of code is walked: by 'wp'; or by 'wpIn' of the wide fence, in a round or in none. -/
inductive Md where
  | plain
  | inn (ro : Option Nat)
/-- A frame: how many slots it has, what waits among its deferred calls, how it is walked. -/
structure Sz where
  size : Nat
  ds : List Deferred
  md : Md
def Fr (n : Sz) (L : List (Nat × Value)) (a : Act) : Prop := a.defers = n.ds ∧ a.tmps.size = n.size ∧ ∀ i v, look L i = some v → a.tmps[i]? = some v
def ev (L : List (Nat × Value)) : Operand → Option Value
  | .tmp i => look L i
  | .const v => some v
  | .global g => some (.pointer (some ⟨g, 0, none⟩))
  | .func f => some (.func (.func f) #[] #[])
def evs (L : List (Nat × Value)) : List Operand → Option (List Value)
  | [] => some []
  | x :: r => match ev L x, evs L r with
    | some v, some vs => some (v :: vs)
    | _, _ => none
def put (L : List (Nat × Value)) : Option Tmp → Value → List (Nat × Value)
  | some d, v => (d, v) :: L
  | none, _ => L
def inside (n : Sz) : Option Tmp → Bool
  | some d => Nat.blt d n.size
  | none => true

section
variable {n : Sz} {L L' : List (Nat × Value)} {a : Act}
theorem Fr.eval (h : Fr n L a) {x : Operand} {v : Value} (hx : ev L x = some v) : a.eval x = v := by
  cases x with
  | tmp i =>
    have := h.2.2 i v hx
    simp [Act.eval, Array.getD_eq_getD_getElem?, this]
  | const c => simpa [ev, Act.eval] using hx
  | global g => simpa [ev, Act.eval] using hx
  | func f => simpa [ev, Act.eval] using hx
theorem Fr.evals (h : Fr n L a) : ∀ {xs : List Operand} {vs : List Value}, evs L xs = some vs → xs.map a.eval = vs
  | [], _, hx => by simp [evs] at hx; simp [hx]
  | x :: r, vs, hx => by
    unfold evs at hx
    split at hx
    · rename_i v us hv hus
      cases hx
      simp [h.eval hv, h.evals hus]
    · cases hx
theorem Fr.put (h : Fr n L a) (d : Option Tmp) (v : Value) (hd : inside n d = true) : Fr n (put L d v) (a.put d v) := by
  cases d with
  | none => exact h
  | some d =>
    have hlt : d < a.tmps.size := by
      rw [h.2.1]; simpa [inside, Nat.blt_eq] using hd
    refine ⟨h.1, by simp [Act.put, h.2.1], fun i u hi => ?_⟩
    unfold Proofs.Ytdllgfkcakhoeaa.put look at hi
    simp only [Act.put]
    cases hb : Nat.beq i d with
    | true =>
      rw [hb] at hi
      have := Nat.eq_of_beq_eq_true hb
      subst this
      simp at hi
      simp [hlt, hi]
    | false =>
      rw [hb] at hi
      have hne : d ≠ i := fun e => by subst e; simp at hb
      rw [Array.getElem?_setIfInBounds_ne hne]
      exact h.2.2 i u hi
def Sub (L' L : List (Nat × Value)) : Prop := ∀ i v, look L' i = some v → look L i = some v
theorem Sub.nil : Sub [] L := fun i v h => by simp [look] at h
theorem Sub.cons {i : Nat} {v : Value} (h : look L i = some v) (hs : Sub L' L) : Sub ((i, v) :: L') L := fun j u hj => by
  unfold look at hj
  cases hb : Nat.beq j i with
  | true => rw [hb] at hj; have := Nat.eq_of_beq_eq_true hb; subst this; simp at hj; subst hj; exact h
  | false => rw [hb] at hj; exact hs j u hj
theorem Sub.refl (L : List (Nat × Value)) : Sub L L := fun _ _ h => h
theorem Fr.sub (h : Fr n L a) (hs : Sub L' L) : Fr n L' a := ⟨h.1, h.2.1, fun i v hi => h.2.2 i v (hs i v hi)⟩
end

/-! ### Two ways to walk -/
section
variable {P : Program} {ops : Array Oper} {Q : Exit → Act → World → Prop} {a : Act} {w : World} {rest : List Oper} {o : Oper} {md : Md}
def wideAt (ro : Option Nat) : Fence := { Fence.wide with round := ro }
def isDefer : Op → Bool
  | .defer _ => true
  | _ => false
def nd : Md → Oper → Bool
  | .plain, _ => true
  | .inn none, _ => true
  | .inn (some _), o => !isDefer o.op
def wpn (md : Md) (P : Program) (c : Code) (Q : Exit → Act → World → Prop) (a : Act) (w : World) : Prop :=
  match md with
  | .plain => c.wp P Q a w
  | .inn ro => c.wpIn (wideAt ro) 2 P Q a w
def wpL (md : Md) (P : Program) (ops : Array Oper) (Q : Exit → Act → World → Prop) (rest : List Oper) (a : Act) (w : World) : Prop :=
  match md with
  | .plain => wpList P ops Q rest a w
  | .inn ro => wpListIn (wideAt ro) 2 P ops Q rest a w
theorem callsIn_at {ro : Option Nat} {k : Nat} {f : FuncId} {args : Array Value} {R : Ending → World → Prop} (h : Calls P f args w R) : CallsIn (wideAt ro) k P f args w R := by
  have := (callsIn_wide (n := k)).2 h
  exact ⟨trivial, this.2⟩
theorem calls_at {ro : Option Nat} {k : Nat} {f : FuncId} {args : Array Value} {R : Ending → World → Prop} (h : CallsIn (wideAt ro) k P f args w R) : Calls P f args w R :=
  (callsIn_wide (n := k)).1 ⟨trivial, h.2⟩
theorem rowsIn_at {ro : Option Nat} {k : Nat} {row : String} {args : Array Value} {R : Value → World → Prop} (h : Rows P row args w R) : RowsIn (wideAt ro) k P row args w R := fun c cs _ => by
  obtain ⟨v, w', r, s⟩ := h c cs
  exact ⟨v, w', r, stepsIn_wide.2 s⟩
theorem opIn_of_wp {ro : Option Nat} {K : Act → World → Prop} (hn : nd (.inn ro) o = true) (h : o.wp P a w K Q) : o.wpIn (wideAt ro) 2 P a w K Q := by
  refine ⟨fun _ _ => trivial, ?_⟩
  have hs : o.semAt (wideAt ro).round a.eval = execOp a.eval o := by
    cases ro with
    | none => rfl
    | some l => exact Oper.semAt_eq _ _ _ (fun c hc => by simp [nd, isDefer, hc] at hn)
  rw [hs]
  unfold Oper.wp at h
  generalize (execOp a.eval o).run P w = r at h ⊢
  cases r with
  | ok x w' =>
    cases x with
    | value v => exact h
    | skip => exact h
    | defer d => exact h
    | enter f args =>
      refine ⟨fun hd => by simp [wideAt, Fence.wide] at hd, callsIn_at (h.mono ?_)⟩
      intro e w'' he
      cases e <;> exact he
    | row row args => exact ⟨fun hd => by simp [wideAt, Fence.wide] at hd, rowsIn_at h⟩
    | _ => exact h.elim
  | halt e w' =>
    cases e with
    | panic v => exact h
    | _ => exact h.elim
theorem wpL_step (hn : nd md o = true)
    (h : ∀ K : Act → World → Prop, (∀ a w, wpL md P ops Q rest a w → K a w) → if Region.wanted o (yielded ops a.tmps) = true then o.wp P a w K Q else K (a.put o.dst undef) w) : wpL md P ops Q (o :: rest) a w := by
  cases md with
  | plain => exact wpList_step h
  | inn ro =>
    refine wpListIn_step fun K hK => ?_
    have h1 := h K hK
    split
    · rename_i hw
      rw [if_pos hw] at h1
      exact opIn_of_wp hn h1
    · rename_i hw
      rw [if_neg hw] at h1
      exact ⟨fun _ _ => trivial, h1⟩
theorem wpL_wants (hn : nd md o = true) (hw : Region.wanted o (yielded ops a.tmps) = true) (h : ∀ K : Act → World → Prop, (∀ a w, wpL md P ops Q rest a w → K a w) → o.wp P a w K Q) : wpL md P ops Q (o :: rest) a w :=
  wpL_step hn fun K hK => by rw [if_pos hw]; exact h K hK
theorem wpL_pass (hw : Region.wanted o (yielded ops a.tmps) = false) (h : wpL md P ops Q rest (a.put o.dst undef) w) : wpL md P ops Q (o :: rest) a w := by
  cases md with
  | plain => exact wpList_step fun K hK => by rw [if_neg (by simp [hw])]; exact hK _ _ h
  | inn ro => exact wpListIn_step fun K hK => by rw [if_neg (by simp [hw])]; exact ⟨fun _ _ => trivial, hK _ _ h⟩
theorem wpL_nil (h : Q .normal a w) : wpL md P ops Q [] a w := by
  cases md with
  | plain => exact h
  | inn ro => exact h
theorem wpn_region_lit {id : Nat} {l : List Oper} (h : wpL md P l.toArray Q l a w) : wpn md P (.region id l.toArray false) Q a w := by
  cases md with
  | plain => exact wp_region_lit h
  | inn ro => exact wpIn_region_lit h
theorem wpn_region_list {id : Nat} (h : wpL md P ops Q ops.toList a w) : wpn md P (.region id ops false) Q a w := by
  cases md with
  | plain => exact wp_region_list h
  | inn ro => exact wpIn_region_list h
theorem wpn_mono {c : Code} {Q' : Exit → Act → World → Prop} (h : wpn md P c Q a w) (hq : ∀ e a w, Q e a w → Q' e a w) : wpn md P c Q' a w := by
  cases md with
  | plain => exact wp_mono h hq
  | inn ro => exact wpIn_mono h hq
theorem wpn_skip (h : Q .normal a w) : wpn md P .skip Q a w := by
  cases md with
  | plain => exact wp_skip h
  | inn ro => exact wpIn_skip h
theorem wpn_exit {id : Nat} (h : Q (.exit id) a w) : wpn md P (.exit id) Q a w := by
  cases md with
  | plain => exact wp_exit h
  | inn ro => exact wpIn_exit h
theorem wpn_ret (h : Q .ret a w) : wpn md P .ret Q a w := by
  cases md with
  | plain => exact wp_ret h
  | inn ro => exact wpIn_ret h
theorem wpn_seq {x y : Code} (h : wpn md P x (Exit.then (wpn md P y Q) Q) a w) : wpn md P (.seq x y) Q a w := by
  cases md with
  | plain => exact wp_seq h
  | inn ro => exact wpIn_seq h
theorem wpn_block {id : Nat} {x : Code} (h : wpn md P x (Exit.inBlock id Q) a w) : wpn md P (.block id x) Q a w := by
  cases md with
  | plain => exact wp_block h
  | inn ro => exact wpIn_block h
theorem wpn_yes {c : Operand} {x y : Code} (hc : a.eval c = .bool true) (h : wpn md P x Q a w) : wpn md P (.cond c x y) Q a w := by
  cases md with
  | plain => exact wp_cond_true hc h
  | inn ro => exact wpIn_cond_true hc h
theorem wpn_no {c : Operand} {x y : Code} (hc : a.eval c = .bool false) (h : wpn md P y Q a w) : wpn md P (.cond c x y) Q a w := by
  cases md with
  | plain => exact wp_cond_false hc h
  | inn ro => exact wpIn_cond_false hc h
theorem wpn_loop {c : Code} (I : Act → World → Prop) (μ : Act → World → Nat) (h₀ : I a w)
    (round : ∀ a w, I a w → wpn md P c (Exit.then (fun a' w' => I a' w' ∧ μ a' w' < μ a w) Q) a w) : wpn md P (.loop c) Q a w := by
  cases md with
  | plain => exact wp_loop I μ h₀ round
  | inn ro => exact wpIn_loop I μ h₀ round
/-- What a region that draws its order asks besides, where it is not walked by 'wp'. -/
def OkR (md : Md) (ops : Array Oper) (Q : Exit → Act → World → Prop) : Prop :=
  match md with
  | .plain => True
  | .inn ro => ¬ LetsOut Q ∧ ops.all (nd (.inn ro)) = true
theorem opsIn_of {ro : Option Nat} (hQ : ¬ LetsOut Q) (hnd : ops.all (nd (.inn ro)) = true) : ∀ (l : List Nat) (a : Act) (w : World), wpOps P ops Q l a w → wpOpsIn (wideAt ro) 2 P ops Q l a w
  | [], _, _, h => h
  | i :: l, a, w, h => by
    simp only [wpOps] at h
    simp only [wpOpsIn]
    cases ho : ops[i]? with
    | none => rw [ho] at h; exact opsIn_of hQ hnd l a w h
    | some o =>
      rw [ho] at h
      dsimp only at h ⊢
      split
      · rename_i hw
        rw [if_pos hw] at h
        have h1 := h.resolve_right fun h => hQ h.2
        have hno : nd (.inn ro) o = true := by
          have := (Array.all_eq_true.1 hnd) i (Array.getElem?_eq_some_iff.1 ho).1
          rw [(Array.getElem?_eq_some_iff.1 ho).2] at this
          exact this
        refine opIn_of_wp hno ?_
        have hm : ∀ (K K' : Act → World → Prop), (∀ a w, K a w → K' a w) → o.wp P a w K Q → o.wp P a w K' Q := fun K K' hK h => by
          unfold Oper.wp at h ⊢
          generalize (execOp a.eval o).run P w = r at h ⊢
          cases r with
          | ok x w' =>
            cases x with
            | value v => exact hK _ _ h
            | skip => exact hK _ _ h
            | defer d => exact hK _ _ h
            | enter f args =>
              refine h.mono ?_
              intro e w'' he
              cases e with
              | returned v => exact hK _ _ he
              | _ => exact he
            | row row args => exact h.mono fun v w'' he => hK _ _ he
            | _ => exact h.elim
          | halt e w' =>
            cases e with
            | panic v => exact h
            | _ => exact h.elim
        exact hm _ _ (fun a w h => opsIn_of hQ hnd l a w h) h1
      · rename_i hw
        rw [if_neg hw] at h
        exact ⟨fun _ _ => trivial, opsIn_of hQ hnd l _ w h⟩
theorem wpnFrom_start {id : Nat} (hok : OkR md ops Q) (hmix : P.follows .mixedOrders = true) (h : wpFrom P .any ops Q 0 a w.drew) : wpn md P (.region id ops true) Q a w := by
  cases md with
  | plain => exact wpFrom_start hmix h
  | inn ro =>
    refine wpIn_region_draw fun t => opsIn_of hok.1 hok.2 _ _ _ ?_
    have := h (Array.replicate ops.size false) ⟨by simp, fun k hk => by simp [hk], fun k o _ hk => by
      by_cases hks : k < ops.size
      · simp [hks] at hk
      · simp [hks] at hk⟩
    rw [Nat.sub_zero] at this
    simp only [Region.schedule, hmix, Bool.true_or, if_true]
    exact wpAny_sound ops.size t _ a _ this
end

/-! ### Judgements -/
section
variable {P : Program} {ops : Array Oper} {Q : Exit → Act → World → Prop} {n : Sz} {w0 : World} {L L' : List (Nat × Value)} {H : List Ent}
/-- The rest of a region in the text's order. -/
def TL (P : Program) (ops : Array Oper) (Q : Exit → Act → World → Prop) (n : Sz) (w0 : World) (rest : List Oper) (L : List (Nat × Value)) (H : List Ent) : Prop :=
  ∀ a w, Fr n L a → St w0 H w → wpL n.md P ops Q rest a w
def TC (P : Program) (Q : Exit → Act → World → Prop) (n : Sz) (w0 : World) (c : Code) (L : List (Nat × Value)) (H : List Ent) : Prop :=
  ∀ a w, Fr n L a → St w0 H w → wpn n.md P c Q a w
def TE (Q : Exit → Act → World → Prop) (e : Exit) (n : Sz) (w0 : World) (L : List (Nat × Value)) (H : List Ent) : Prop :=
  ∀ a w, Fr n L a → St w0 H w → Q e a w
/-- From operation k on in a region that draws its order. -/
def TF (P : Program) (ops : Array Oper) (Q : Exit → Act → World → Prop) (n : Sz) (w0 : World) (k : Nat) (L : List (Nat × Value)) (H : List Ent) : Prop :=
  ∀ a w, Fr n L a → St w0 H w → wpFrom P .any ops Q k a w
/-- m operations more, each with one value. -/
def TS (P : Program) (ops : Array Oper) (Q : Exit → Act → World → Prop) (n : Sz) (w0 : World) (k m : Nat) (rest : List Oper) (L : List (Nat × Value)) (H : List Ent) : Prop :=
  ∀ a, Fr n L a → SeqM P ops (St w0 H) (wpFrom P .any ops Q k) m rest a
/-- The operation ends with v and leaves the world. -/
def Gets (P : Program) (n : Sz) (w0 : World) (o : Oper) (L : List (Nat × Value)) (H : List Ent) (v : Value) : Prop :=
  ∀ a w, Fr n L a → St w0 H w → (execOp a.eval o).run P w = .ok (.value v) w

variable {o : Oper} {rest : List Oper} {v : Value} {k m : Nat}
/-- The operation is asked for, by its guard. -/
structure Wants (n : Sz) (ops : Array Oper) (L : List (Nat × Value)) (o : Oper) : Prop where
  nd : nd n.md o = true
  go : ∀ a, Fr n L a → Region.wanted o (yielded ops a.tmps) = true
instance : CoeFun (Wants n ops L o) (fun _ => ∀ a, Fr n L a → Region.wanted o (yielded ops a.tmps) = true) := ⟨fun h => h.go⟩
theorem Wants.none (h : o.guard = none) (hn : Proofs.Ytdllgfkcakhoeaa.nd n.md o = true := by rfl) : Wants n ops L o := ⟨hn, fun a _ => by simp [Region.wanted, h]⟩
theorem guard_val {a : Act} {j d : Nat} {b : Bool} (hf : Fr n L a) (hj : (ops[j]?).bind (·.dst) = some d) (hd : look L d = some (.bool b)) : yielded ops a.tmps j = some b := by
  unfold yielded
  rw [hj]
  simp [hf.2.2 d _ hd]
theorem Wants.yes {j d : Nat} {b : Bool} (h : o.guard = some (j, b)) (hj : (ops[j]?).bind (·.dst) = some d) (hd : look L d = some (.bool b)) (hn : Proofs.Ytdllgfkcakhoeaa.nd n.md o = true := by rfl) : Wants n ops L o := ⟨hn, fun a hf => by
  simp [Region.wanted, h, guard_val hf hj hd]⟩
theorem TL.pass {j d : Nat} {b c : Bool} (h : o.guard = some (j, c)) (hj : (ops[j]?).bind (·.dst) = some d) (hd : look L d = some (.bool b)) (hi : inside n o.dst = true) (hb : b = !c) (hr : TL P ops Q n w0 rest (put L o.dst undef) H) : TL P ops Q n w0 (o :: rest) L H :=
  fun a w hf hs => by
    have hw : Region.wanted o (yielded ops a.tmps) = false := by
      subst hb
      simp [Region.wanted, h, guard_val hf hj hd]
    exact wpL_pass hw (hr _ _ (hf.put o.dst undef hi) hs)
theorem TS.pass {j d : Nat} {b c : Bool} (h : o.guard = some (j, c)) (hj : (ops[j]?).bind (·.dst) = some d) (hd : look L d = some (.bool b)) (hi : inside n o.dst = true) (hb : b = !c) (hr : TS P ops Q n w0 k m rest (put L o.dst undef) H) : TS P ops Q n w0 k (m + 1) (o :: rest) L H :=
  fun a hf => SeqM.skip (by
      subst hb
      simp [Region.wanted, h, guard_val hf hj hd]) (hr _ (hf.put o.dst undef hi))
theorem TL.gets (hg : Wants n ops L o) (hi : inside n o.dst = true) (h : Gets P n w0 o L H v) (hr : TL P ops Q n w0 rest (put L o.dst v) H) : TL P ops Q n w0 (o :: rest) L H :=
  fun a w hf hs => wpL_wants hg.nd (hg a hf) fun K hK => by
    unfold Oper.wp; rw [h a w hf hs]
    exact hK _ _ (hr _ _ (hf.put o.dst v hi) hs)
theorem TS.gets (hg : Wants n ops L o) (hi : inside n o.dst = true) (h : Gets P n w0 o L H v) (hr : TS P ops Q n w0 k m rest (put L o.dst v) H) : TS P ops Q n w0 k (m + 1) (o :: rest) L H :=
  fun a hf => SeqM.take (hg a hf) (fun w hs => h a w hf hs) (hr _ (hf.put o.dst v hi))

/-- A guard that says yes, or no. -/
def yields (ops : Array Oper) (L : List (Nat × Value)) (j : Nat) : Option Value := (ops[j]?).bind fun o => o.dst.bind (look L)

theorem TL.nil (h : TE Q .normal n w0 L H) : TL P ops Q n w0 [] L H := fun a w hf hs => wpL_nil (h a w hf hs)
theorem TS.done (h : TF P ops Q n w0 k L H) : TS P ops Q n w0 k 0 rest L H := fun a hf => SeqM.done fun w hs => h a w hf hs
theorem TC.regionL {id : Nat} {l : List Oper} (h : TL P l.toArray Q n w0 l L H) : TC P Q n w0 (.region id l.toArray false) L H := fun a w hf hs => wpn_region_lit (h a w hf hs)
theorem TF.seqL {l : List Oper} (m : Nat) (hc : stretch .any l.toArray k (k + m) = true) (h : TS P l.toArray Q n w0 (k + m) m (l.drop k) L H) : TF P l.toArray Q n w0 k L H :=
  fun a w hf hs => wpFrom_seq m (St w0 H) hc hs (h a hf)
theorem TF.tailL {l : List Oper} (hc : chained .any l.toArray k = true) (h : TL P l.toArray Q n w0 (l.drop k) L H) (hmd : n.md = .plain := by rfl) : TF P l.toArray Q n w0 k L H := fun a w hf hs => wpFrom_tail hc (by have := h a w hf hs; rw [hmd] at this; exact this)
theorem TF.doneL {l : List Oper} (hk : l.length = k) (h : TE Q .normal n w0 L H) : TF P l.toArray Q n w0 k L H := by
  subst hk; exact fun a w hf hs => wpFrom_end (ops := l.toArray) (h a w hf hs)
theorem TF.done (h : TE Q .normal n w0 L H) : TF P ops Q n w0 ops.size L H := fun a w hf hs => wpFrom_end (h a w hf hs)
theorem TF.tail (hc : chained .any ops k = true) (h : TL P ops Q n w0 (ops.toList.drop k) L H) (hmd : n.md = .plain := by rfl) : TF P ops Q n w0 k L H := fun a w hf hs => wpFrom_tail hc (by have := h a w hf hs; rw [hmd] at this; exact this)
theorem TF.seq (m : Nat) (hc : stretch .any ops k (k + m) = true) (h : TS P ops Q n w0 (k + m) m (ops.toList.drop k) L H) : TF P ops Q n w0 k L H :=
  fun a w hf hs => wpFrom_seq m (St w0 H) hc hs (h a hf)
theorem TC.draw {id : Nat} (hmix : P.follows .mixedOrders = true) (h : TF P ops Q n w0 0 L H) (hok : OkR n.md ops Q := by exact trivial) : TC P Q n w0 (.region id ops true) L H :=
  fun a w hf hs => wpnFrom_start hok hmix (h a _ hf hs.drew)
theorem TC.region {id : Nat} (h : TL P ops Q n w0 ops.toList L H) : TC P Q n w0 (.region id ops false) L H := fun a w hf hs => wpn_region_list (h a w hf hs)
theorem TC.seq {x y : Code} (h : TC P (Exit.then (wpn n.md P y Q) Q) n w0 x L H) : TC P Q n w0 (.seq x y) L H := fun a w hf hs => wpn_seq (h a w hf hs)
theorem TE.then {y : Code} {Q' : Exit → Act → World → Prop} (h : TC P Q n w0 y L H) : TE (Exit.then (wpn n.md P y Q) Q') .normal n w0 L H := h
theorem TC.block {id : Nat} {x : Code} (h : TC P (Exit.inBlock id Q) n w0 x L H) : TC P Q n w0 (.block id x) L H := fun a w hf hs => wpn_block (h a w hf hs)
theorem TE.blockN {id : Nat} (h : TE Q .normal n w0 L H) : TE (Exit.inBlock id Q) .normal n w0 L H := h
theorem TE.blockX {id : Nat} (h : TE Q .normal n w0 L H) : TE (Exit.inBlock id Q) (.exit id) n w0 L H := fun a w hf hs => by
  simp only [Exit.inBlock, if_true]; exact h a w hf hs
theorem TE.blockY {id j : Nat} (hij : Nat.beq j id = false) (h : TE Q (.exit j) n w0 L H) : TE (Exit.inBlock id Q) (.exit j) n w0 L H := fun a w hf hs => by
  simp only [Exit.inBlock]; rw [if_neg (fun e => by subst e; simp at hij)]; exact h a w hf hs
theorem TE.thenX {K : Act → World → Prop} {j : Nat} (h : TE Q (.exit j) n w0 L H) : TE (Exit.then K Q) (.exit j) n w0 L H := h
theorem TE.thenR {K : Act → World → Prop} (h : TE Q .ret n w0 L H) : TE (Exit.then K Q) .ret n w0 L H := h
theorem TE.blockR {id : Nat} (h : TE Q .ret n w0 L H) : TE (Exit.inBlock id Q) .ret n w0 L H := h
theorem TC.skip (h : TE Q .normal n w0 L H) : TC P Q n w0 .skip L H := fun a w hf hs => wpn_skip (h a w hf hs)
theorem TC.exit {id : Nat} (h : TE Q (.exit id) n w0 L H) : TC P Q n w0 (.exit id) L H := fun a w hf hs => wpn_exit (h a w hf hs)
theorem TC.ret (h : TE Q .ret n w0 L H) : TC P Q n w0 .ret L H := fun a w hf hs => wpn_ret (h a w hf hs)
theorem TC.yes {c : Operand} {x y : Code} (hc : ev L c = some (.bool true)) (h : TC P Q n w0 x L H) : TC P Q n w0 (.cond c x y) L H := fun a w hf hs => wpn_yes (hf.eval hc) (h a w hf hs)
theorem TC.no {c : Operand} {x y : Code} (hc : ev L c = some (.bool false)) (h : TC P Q n w0 y L H) : TC P Q n w0 (.cond c x y) L H := fun a w hf hs => wpn_no (hf.eval hc) (h a w hf hs)
theorem TC.split {c : Operand} {x y : Code} {p : Prop} [Decidable p] (hc : ev L c = some (.bool (decide p))) (h1 : p → TC P Q n w0 x L H) (h2 : ¬ p → TC P Q n w0 y L H) : TC P Q n w0 (.cond c x y) L H := by
  by_cases hp : p
  · exact TC.yes (by rw [hc]; simp [hp]) (h1 hp)
  · exact TC.no (by rw [hc]; simp [hp]) (h2 hp)
theorem TC.splitB {c : Operand} {x y : Code} {b : Bool} (hc : ev L c = some (.bool b)) (h1 : b = true → TC P Q n w0 x L H) (h2 : b = false → TC P Q n w0 y L H) : TC P Q n w0 (.cond c x y) L H := by
  cases b
  · exact TC.no hc (h2 rfl)
  · exact TC.yes hc (h1 rfl)
theorem TC.sub {c : Code} (hs : Sub L' L) (h : TC P Q n w0 c L' H) : TC P Q n w0 c L H := fun a w hf hs' => h a w (hf.sub hs) hs'
theorem TE.sub {e : Exit} (hs : Sub L' L) (h : TE Q e n w0 L' H) : TE Q e n w0 L H := fun a w hf hs' => h a w (hf.sub hs) hs'
theorem TL.sub (hs : Sub L' L) (h : TL P ops Q n w0 rest L' H) : TL P ops Q n w0 rest L H := fun a w hf hs' => h a w (hf.sub hs) hs'
theorem TE.heap {e : Exit} {H' : List Ent} (hh : ∀ w, St w0 H w → St w0 H' w) (h : TE Q e n w0 L H') : TE Q e n w0 L H := fun a w hf hs => h a w hf (hh w hs)
theorem TL.heap {H' : List Ent} (hh : ∀ w, St w0 H w → St w0 H' w) (h : TL P ops Q n w0 rest L H') : TL P ops Q n w0 rest L H := fun a w hf hs => h a w hf (hh w hs)
theorem TC.heap {c : Code} {H' : List Ent} (hh : ∀ w, St w0 H w → St w0 H' w) (h : TC P Q n w0 c L H') : TC P Q n w0 c L H := fun a w hf hs => h a w hf (hh w hs)

theorem least_of {p : Nat → Prop} : ∀ m, p m → ∃ k, p k ∧ ∀ j, p j → k ≤ j := by
  intro m
  induction m using Nat.strongRecOn with
  | _ m ih =>
    intro hm
    by_cases h : ∃ j, j < m ∧ p j
    · obtain ⟨j, hj, hp⟩ := h; exact ih j hj hp
    · exact ⟨m, hm, fun j hp => Nat.le_of_not_lt fun hlt => h ⟨j, hlt, hp⟩⟩
open Classical in
noncomputable def leastOf (p : Nat → Prop) : Nat := if h : ∃ k, p k ∧ ∀ j, p j → k ≤ j then Classical.choose h else 0
theorem leastOf_spec {p : Nat → Prop} {m : Nat} (hm : p m) : p (leastOf p) ∧ ∀ j, p j → leastOf p ≤ j := by
  have h := least_of m hm
  unfold leastOf; rw [dif_pos h]
  exact Classical.choose_spec h
/-- At the end of a round: the invariant stands at a smaller measure. -/
def Back {ι : Type} (n : Sz) (w0 : World) (Li : ι → List (Nat × Value)) (Hi : ι → List Ent) (μ : ι → Nat) (C : ι → Prop) (m : Nat) (a : Act) (w : World) : Prop :=
  ∃ i, μ i < m ∧ C i ∧ Fr n (Li i) a ∧ St w0 (Hi i) w
theorem TE.back {ι : Type} {Li : ι → List (Nat × Value)} {Hi : ι → List Ent} {μ : ι → Nat} {C : ι → Prop} {m : Nat} (i : ι) (hμ : μ i < m) (hC : C i) (hs : Sub (Li i) L) (hH : ∀ w, St w0 H w → St w0 (Hi i) w) :
    TE (Exit.then (Back n w0 Li Hi μ C m) Q) .normal n w0 L H := fun a w hf hst => ⟨i, hμ, hC, hf.sub hs, hH w hst⟩
theorem TC.loop {ι : Type} (Li : ι → List (Nat × Value)) (Hi : ι → List Ent) (μ : ι → Nat) (C : ι → Prop) (i0 : ι) {c : Code} (hC : C i0) (hs : Sub (Li i0) L) (hH : ∀ w, St w0 H w → St w0 (Hi i0) w)
    (round : ∀ i, C i → TC P (Exit.then (Back n w0 Li Hi μ C (μ i)) Q) n w0 c (Li i) (Hi i)) : TC P Q n w0 (.loop c) L H := by
  intro a w hf hst
  let I : Act → World → Prop := fun a w => ∃ i, C i ∧ Fr n (Li i) a ∧ St w0 (Hi i) w
  let p : Act → World → Nat → Prop := fun a w m => ∃ i, μ i = m ∧ C i ∧ Fr n (Li i) a ∧ St w0 (Hi i) w
  let M : Act → World → Nat := fun a w => leastOf (p a w)
  have hM : ∀ a w i, C i → Fr n (Li i) a → St w0 (Hi i) w → M a w ≤ μ i := fun a w i h1 h2 h3 => (leastOf_spec (p := p a w) ⟨i, rfl, h1, h2, h3⟩).2 _ ⟨i, rfl, h1, h2, h3⟩
  refine wpn_loop I M ⟨i0, hC, hf.sub hs, hH w hst⟩ ?_
  rintro a w ⟨i, h1, h2, h3⟩
  obtain ⟨i', e', c', f', s'⟩ := (leastOf_spec (p := p a w) ⟨i, rfl, h1, h2, h3⟩).1
  have hMe : M a w = μ i' := e'.symm
  refine wpn_mono (round i' c' a w f' s') ?_
  intro e a2 w2 hq
  cases e with
  | normal =>
    obtain ⟨j, hj, hCj, hfj, hsj⟩ := hq
    refine ⟨⟨j, hCj, hfj, hsj⟩, ?_⟩
    have := hM a2 w2 j hCj hfj hsj
    omega
  | _ => exact hq
end
end Go.Proofs.Ytdllgfkcakhoeaa
