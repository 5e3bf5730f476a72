/-
  A range over a function whose iterator keeps state of its own in cells: the iterator's contract, and one law for the statement.
-/
import Derived.RangeFuncNested
import Derived.RangeFuncLeaves
import Derived.Below
namespace Go.Proofs.Ytdllgfkcakhoeaa
set_option linter.unusedVariables false
set_option linter.unusedSimpArgs false
open Go Go.RowKit

/-- Outside the blocks from lo up to hi nothing that was there has turned. -/
structure Beside (lo hi : Nat) (A B : World) : Prop where
  os : B.os = A.os
  tape : B.tape = A.tape
  output : B.output = A.output
  size : A.heap.size ≤ B.heap.size
  block : ∀ k, k < A.heap.size → ¬ (lo ≤ k ∧ k < hi) → B.heap[k]? = A.heap[k]?

theorem Beside.refl (lo hi : Nat) (A : World) : Beside lo hi A A := ⟨rfl, rfl, rfl, Nat.le_refl _, fun _ _ _ => rfl⟩
theorem Beside.trans {lo hi : Nat} {A B C : World} (h : Beside lo hi A B) (k : Beside lo hi B C) : Beside lo hi A C :=
  ⟨k.os.trans h.os, k.tape.trans h.tape, k.output.trans h.output, Nat.le_trans h.size k.size, fun i hi' hn => (k.block i (Nat.lt_of_lt_of_le hi' h.size) hn).trans (h.block i hi' hn)⟩
theorem Beside.mono {lo hi lo' hi' : Nat} {A B : World} (h : Beside lo hi A B) (h1 : lo' ≤ lo) (h2 : hi ≤ hi') : Beside lo' hi' A B :=
  ⟨h.os, h.tape, h.output, h.size, fun k hk hn => h.block k hk (fun hc => hn ⟨Nat.le_trans h1 hc.1, Nat.lt_of_lt_of_le hc.2 h2⟩)⟩
theorem Beside.alloc (lo hi : Nat) (A : World) (o : Obj) : Beside lo hi A (A.alloc o) := ⟨rfl, rfl, rfl, by simp, fun k hk _ => Below.heap_alloc A o k hk⟩
theorem Beside.drew (lo hi : Nat) (A : World) : Beside lo hi A A.drew := ⟨rfl, rfl, rfl, Nat.le_refl _, fun _ _ _ => rfl⟩
theorem Beside.setCell {lo hi : Nat} (A : World) (p : Addr) (u : Value) (h1 : lo ≤ p.block) (h2 : p.block < hi) : Beside lo hi A (A.setCell p u) :=
  ⟨rfl, rfl, rfl, by simp [World.setCell], fun k _ hn => Below.heap_setCell A p u k (fun e => hn (by rw [e]; exact ⟨h1, h2⟩))⟩
theorem Beside.putObj {lo hi : Nat} (A : World) (r : Nat) (o : Obj) (h1 : lo ≤ r) (h2 : r < hi) : Beside lo hi A (A.putObj r o) :=
  ⟨rfl, rfl, rfl, by simp, fun k _ hn => World.putObj_heap_other (fun e => hn (by rw [e]; exact ⟨h1, h2⟩))⟩
theorem Beside.below {lo hi n₀ : Nat} {A B : World} (h : Beside lo hi A B) (hn : n₀ ≤ lo) (hA : n₀ ≤ A.heap.size) : Below n₀ A B :=
  ⟨h.os, h.tape, h.output, h.size, fun k hk => h.block k (Nat.lt_of_lt_of_le hk hA) (fun hc => by omega)⟩
theorem Beside.of_below {lo hi : Nat} {A B : World} (h : Below A.heap.size A B) : Beside lo hi A B := ⟨h.os, h.tape, h.output, h.size, fun k hk _ => h.block k hk⟩
theorem Beside.cell {lo hi : Nat} {A B : World} (h : Beside lo hi A B) {b o : Nat} (hb : b < A.heap.size) (hn : b < lo ∨ hi ≤ b) : B.cell? ⟨b, o, none⟩ = A.cell? ⟨b, o, none⟩ :=
  World.cell?_of_block (w := A) (h.block b hb (by omega))
theorem Beside.frozen {lo hi : Nat} {A B : World} (h : Beside lo hi A B) {b o : Nat} (hb : b < A.heap.size) (hn : b < lo ∨ hi ≤ b) : B.frozen? ⟨b, o, none⟩ = A.frozen? ⟨b, o, none⟩ :=
  World.frozen?_of_block (w := A) (h.block b hb (by omega))

/-- The blocks of a set lie as they lay. -/
structure Keeps (Ks : Nat → Prop) (A B : World) : Prop where
  size : A.heap.size ≤ B.heap.size
  block : ∀ k, Ks k → k < A.heap.size → B.heap[k]? = A.heap[k]?
theorem Keeps.refl (Ks : Nat → Prop) (A : World) : Keeps Ks A A := ⟨Nat.le_refl _, fun _ _ _ => rfl⟩
theorem Keeps.trans {Ks : Nat → Prop} {A B C : World} (h : Keeps Ks A B) (k : Keeps Ks B C) : Keeps Ks A C :=
  ⟨Nat.le_trans h.size k.size, fun i hi hl => (k.block i hi (Nat.lt_of_lt_of_le hl h.size)).trans (h.block i hi hl)⟩
theorem Keeps.mono {Ks Ks' : Nat → Prop} {A B : World} (h : Keeps Ks A B) (hs : ∀ k, Ks' k → Ks k) : Keeps Ks' A B := ⟨h.size, fun k hk => h.block k (hs k hk)⟩
theorem Keeps.alloc (Ks : Nat → Prop) (A : World) (o : Obj) : Keeps Ks A (A.alloc o) := ⟨by simp, fun k _ hl => Below.heap_alloc A o k hl⟩
theorem Keeps.drew (Ks : Nat → Prop) (A : World) : Keeps Ks A A.drew := ⟨Nat.le_refl _, fun _ _ _ => rfl⟩
theorem Keeps.setCell {Ks : Nat → Prop} (A : World) (p : Addr) (u : Value) (h : ¬ Ks p.block) : Keeps Ks A (A.setCell p u) :=
  ⟨by simp [World.setCell], fun k hk _ => Below.heap_setCell A p u k (fun e => h (by rw [← e]; exact hk))⟩
theorem Keeps.putObj {Ks : Nat → Prop} (A : World) (r : Nat) (o : Obj) (h : ¬ Ks r) : Keeps Ks A (A.putObj r o) :=
  ⟨by simp, fun k hk _ => World.putObj_heap_other (fun e => h (by rw [← e]; exact hk))⟩
theorem Keeps.grown {Ks : Nat → Prop} {A B : World} {row : Option Nat} (hg : A.grownBy B row) (h : ∀ r, row = some r → ¬ Ks r) : Keeps Ks A B :=
  ⟨hg.size, fun k hk hl => hg.block k hl (fun e => h k e.symm hk)⟩
theorem Keeps.below {Ks : Nat → Prop} {A B : World} (h : Below A.heap.size A B) : Keeps Ks A B := ⟨h.size, fun k _ hl => h.block k hl⟩
theorem Keeps.cell {Ks : Nat → Prop} {A B : World} (h : Keeps Ks A B) {b o : Nat} (hb : b < A.heap.size) (hk : Ks b) : B.cell? ⟨b, o, none⟩ = A.cell? ⟨b, o, none⟩ :=
  World.cell?_of_block (w := A) (h.block b hk hb)
theorem Keeps.frozen {Ks : Nat → Prop} {A B : World} (h : Keeps Ks A B) {b o : Nat} (hb : b < A.heap.size) (hk : Ks b) : B.frozen? ⟨b, o, none⟩ = A.frozen? ⟨b, o, none⟩ :=
  World.frozen?_of_block (w := A) (h.block b hk hb)

/-- **THE ITERATOR's CONTRACT.** Called in whatever later world W with whatever loop's yield: it hands on encs 0, encs 1, .. up to N of them, in that order; it keeps state in its own first c blocks alone; the rounds must keep those, and the blocks that it has captured. -/
def IterC (F : Fence) (n : Nat) (P : Program) (g : Nat) (lb : Array Value) (encs : Nat → Array Value) (N c : Nat) (Cap : Nat → Prop) (w0 : World) : Prop :=
  ∀ (l : Nat) (J Jx : Nat → World → Prop) (W : World), Below w0.heap.size w0 W →
    (∀ s A B, J s A → Beside W.heap.size (W.heap.size + c) A B → J s B) →
    (∀ s A B, Jx s A → Beside W.heap.size (W.heap.size + c) A B → Jx s B) →
    (∀ i W1, i < N → J i W1 → W.heap.size + c ≤ W1.heap.size → YieldAt F (n - 1) P l (encs i) W1 fun e W' =>
      (e = .returned (.bool true) ∧ J (i + 1) W' ∧ Keeps (fun k => (W.heap.size ≤ k ∧ k < W.heap.size + c) ∨ Cap k) W1 W') ∨ (e = .returned (.bool false) ∧ Jx (i + 1) W' ∧ W1.heap.size ≤ W'.heap.size)) →
    J 0 W →
    CallsIn F n P g (#[.func (.yield l) #[] #[]] ++ lb) W fun e W' => (∃ v, e = .returned v) ∧ (J N W' ∨ ∃ i, i < N ∧ Jx (i + 1) W')

/-- How the body of a round may be left. -/
def itPost (Ks : Nat → Prop) (I : Nat → World → Prop) (Ix : Code → Nat → World → Prop) (i : Nat) (W : World) : Exit → Act → World → Prop
  | .normal, _, W' => Keeps Ks W W' ∧ I i W'
  | .ret, _, W' => Keeps Ks W W' ∧ Ix .ret i W'
  | .exit id, _, W' => Keeps Ks W W' ∧ Ix (.exit id) i W'
  | .goto t, _, W' => Keeps Ks W W' ∧ Ix (.goto t) i W'
  | .panic _, _, _ => False
  | .outgrown, _, _ => False

variable {F : Fence} {n : Nat} {P : Program}

/-- **THE STATEMENT**, over an iterator that has its contract. 'lo': the heap's size where the statement begins; the record and the block for deferred calls are lo and lo + 1, the iterator's own blocks follow. -/
theorem wpIn_rangeFunc_it {g : Operand} {ps : Array Tmp} {assign body : Code} {Q : Exit → Act → World → Prop} {a : Act} {w : World}
    (hro : F.round = none) (h1 : 1 ≤ n) {gf : Nat} {lb : Array Value} (hg : a.eval g = .func (.func gf) #[] lb) (hFg : F.fn gf) (eg : ∀ args w, (callFunc gf args).run P w = .ok (.enter gf args) w)
    {encs : Nat → Array Value} {N c : Nat} {Cap : Nat → Prop} {w0 : World} (hseq : IterC F (n - 1) P gf lb encs N c Cap w0)
    (hb0 : Below w0.heap.size w0 w) (hcap : ∀ k, Cap k → k < w.heap.size) (hps : ∀ i, (encs i).size = ps.size)
    (I : Nat → World → Prop) (Ix : Code → Nat → World → Prop) (Ax : Nat → Act → World → Prop)
    (hI : ∀ s A B, I s A → Beside w.heap.size (w.heap.size + 2 + c) A B → I s B)
    (hIx : ∀ j s A B, Ix j s A → Beside w.heap.size (w.heap.size + 2 + c) A B → Ix j s B)
    (hAx : ∀ s a A B, Ax s a A → Beside w.heap.size (w.heap.size + 2 + c) A B → Ax s a B)
    (h0 : I 0 w)
    (hassign : ∀ (l i : Nat) (W : World), i < N → I i W → w.heap.size + 2 + c ≤ W.heap.size → assign.wpIn (F.inRound l) (n - 1 - 1) P
      (Exit.then (fun a₁ W₁ => Ax i a₁ W₁ ∧ Keeps (fun k => (w.heap.size ≤ k ∧ k < w.heap.size + 2 + c) ∨ Cap k) W W₁) (fun _ _ _ => False))
      { tmps := (ps.zip (encs i)).foldl (fun t (p, v) => t.setIfInBounds p v) a.tmps, defers := [] } W)
    (hbody : ∀ (l i : Nat) (a₁ : Act) (W : World), i < N → Ax i a₁ W → w.heap.size + 2 + c ≤ W.heap.size →
      body.wpIn (F.inRound l) (n - 1 - 1) P (itPost (fun k => (w.heap.size ≤ k ∧ k < w.heap.size + 2 + c) ∨ Cap k) I Ix (i + 1) W) a₁ W)
    (hdone : ∀ (W : World), I N W → W.heap[w.heap.size]? = some (.deferred (some [])) → Q .normal { a with defers := { target := .collected w.heap.size, args := #[] } :: a.defers } W)
    (hstop : ∀ (j : Code) (i : Nat) (W : World), i < N → Ix j (i + 1) W → W.heap[w.heap.size]? = some (.deferred (some [])) → j.wpIn F n P Q { a with defers := { target := .collected w.heap.size, args := #[] } :: a.defers } W) :
    (Code.rangeFunc g ps assign body).wpIn F n P Q a w := by
  refine wpIn_rangeFunc ?_
  intro fn hfn
  rw [hro]
  obtain ⟨rec, hrec⟩ : ∃ rec : LoopState → Option Code → Loop, rec = fun st pe => { state := st, pending := pe, fn, tmps := a.tmps, params := ps, assign, body, defers := w.heap.size } := ⟨_, rfl⟩
  obtain ⟨W1, hW1⟩ : ∃ W1, (w.alloc (.deferred (some []))).alloc (.loop (rec .ready none)) = W1 := ⟨_, rfl⟩
  have hsz : W1.heap.size = w.heap.size + 2 := by rw [← hW1]; simp
  have hL1 : W1.heap[w.heap.size + 1]? = some (.loop (rec .ready none)) := by
    rw [← hW1]; have := World.alloc_heap_new (w.alloc (.deferred (some []))) (.loop (rec .ready none)); rwa [World.size_alloc] at this
  have hK1 : W1.heap[w.heap.size]? = some (.deferred (some [])) := by
    rw [← hW1]; exact (Below.heap_alloc _ _ _ (by simp)).trans (World.alloc_heap_new w _)
  have hI1 : I 0 W1 := by rw [← hW1]; exact hI _ _ _ (hI _ _ _ h0 (Beside.alloc _ _ _ _)) (Beside.alloc _ _ _ _)
  have hb1 : Below w0.heap.size w0 W1 := by
    rw [← hW1]; exact hb0.trans ((((Below.refl _ w).alloc (Nat.le_refl _) _).alloc (by simp) _).mono hb0.size)
  refine ⟨w.heap.size + 1, [{ target := .collected w.heap.size, args := #[] }], W1, { target := .fn (.func gf) lb, args := #[.func (.yield (w.heap.size + 1)) #[] #[]] }, W1, gf,
    #[.func (.yield (w.heap.size + 1)) #[] #[]] ++ lb, W1, ?_, ?_, ?_, ?_, fun _ => h1, ?_⟩
  · rw [← hW1, hrec]; exact run_enterLoop_outer _ _ _ _ _
  · simp only [resolve, hg]
    simp [go_sem]
  · intro f' hf'; simp [Target.leads] at hf'; subst hf'; exact hFg
  · simp [invoke, go_sem, eg]
  · have inM : ∀ {A B : World}, Beside W1.heap.size (W1.heap.size + c) A B → Beside w.heap.size (w.heap.size + 2 + c) A B := fun h => h.mono (by omega) (by omega)
    refine (hseq (w.heap.size + 1)
      (fun i W => I i W ∧ W.heap[w.heap.size + 1]? = some (.loop (rec .ready none)) ∧ W.heap[w.heap.size]? = some (.deferred (some [])))
      (fun i W => ∃ j, Ix j i W ∧ W.heap[w.heap.size + 1]? = some (.loop (rec .done (some j))) ∧ W.heap[w.heap.size]? = some (.deferred (some [])))
      W1 hb1
      (fun s A B hs hg' => by
        have l1 := (Array.getElem?_eq_some_iff.1 hs.2.1).1
        exact ⟨hI s A B hs.1 (inM hg'), (hg'.block _ l1 (by omega)).trans hs.2.1, (hg'.block _ (by omega) (by omega)).trans hs.2.2⟩)
      (fun s A B hs hg' => by
        obtain ⟨j, hj, hl, hk⟩ := hs
        have l1 := (Array.getElem?_eq_some_iff.1 hl).1
        exact ⟨j, hIx j s A B hj (inM hg'), (hg'.block _ l1 (by omega)).trans hl, (hg'.block _ (by omega) (by omega)).trans hk⟩)
      ?_ ⟨hI1, hL1, hK1⟩).mono ?_
    · -- one round
      rintro i W hiN ⟨hi, hl, hk⟩ hWs
      have hlt : w.heap.size + 1 < W.heap.size := (Array.getElem?_eq_some_iff.1 hl).1
      have hy := run_yield (P := P) (args := encs i) hl (by rw [hrec]; exact hps i)
      rw [hrec] at hy
      refine ⟨fn, _, assign, body, hy, roundIn_of_wpIn hfn (wpIn_mono (hassign (w.heap.size + 1) i W hiN hi (by omega)) ?_)⟩
      intro e1 a1 W2 hp1
      cases e1 with
      | normal =>
        obtain ⟨hax, hkp⟩ := hp1
        have hl2 : W2.heap[w.heap.size + 1]? = some (.loop (rec .ready none)) := (hkp.block _ (.inl ⟨by omega, by omega⟩) hlt).trans hl
        have hk2 : W2.heap[w.heap.size]? = some (.deferred (some [])) := (hkp.block _ (.inl ⟨by omega, by omega⟩) (by omega)).trans hk
        have hlt2 : w.heap.size + 1 < W2.heap.size := (Array.getElem?_eq_some_iff.1 hl2).1
        refine ⟨_, run_beginRound hl2 (by rw [hrec]), ?_⟩
        obtain ⟨W3, hW3⟩ : ∃ W3, W2.putObj (w.heap.size + 1) (.loop { rec .ready none with state := .busy }) = W3 := ⟨_, rfl⟩
        rw [hW3]
        have hl3 : W3.heap[w.heap.size + 1]? = some (.loop { rec .ready none with state := .busy }) := by rw [← hW3]; exact World.putObj_heap_same hlt2
        have hk3 : W3.heap[w.heap.size]? = some (.deferred (some [])) := by rw [← hW3]; exact (World.putObj_heap_other (by omega)).trans hk2
        have hax3 : Ax i a1 W3 := by rw [← hW3]; exact hAx _ _ _ _ hax (Beside.putObj _ _ _ (by omega) (by omega))
        have hs3 : W3.heap.size = W2.heap.size := by rw [← hW3]; simp
        have hke3 : Keeps (fun k => (W1.heap.size ≤ k ∧ k < W1.heap.size + c) ∨ Cap k) W W3 := by
          have hput : Keeps (fun k => (W1.heap.size ≤ k ∧ k < W1.heap.size + c) ∨ Cap k) W2 W3 := by
            rw [← hW3]
            refine Keeps.putObj _ _ _ ?_
            rintro (hk | hk)
            · omega
            · have := hcap _ hk; omega
          refine (hkp.mono ?_).trans hput
          rintro k (hk | hk)
          · exact .inl ⟨by omega, by omega⟩
          · exact .inr hk
        refine wpIn_mono (hbody _ i a1 W3 hiN hax3 (by have := hkp.size; omega)) ?_
        have fin : ∀ (jump : Option Code) (W4 : World), Keeps (fun k => (w.heap.size ≤ k ∧ k < w.heap.size + 2 + c) ∨ Cap k) W3 W4 →
            (Instr.endRound (w.heap.size + 1) jump).run P W4 = .ok (.bool jump.isNone) (W4.putObj (w.heap.size + 1) (.loop (rec (if jump.isNone then .ready else .done) jump))) ∧
            W4.heap.size ≤ (W4.putObj (w.heap.size + 1) (.loop (rec (if jump.isNone then .ready else .done) jump))).heap.size ∧
            (W4.putObj (w.heap.size + 1) (.loop (rec (if jump.isNone then .ready else .done) jump))).heap[w.heap.size + 1]? = some (.loop (rec (if jump.isNone then .ready else .done) jump)) ∧
            (W4.putObj (w.heap.size + 1) (.loop (rec (if jump.isNone then .ready else .done) jump))).heap[w.heap.size]? = some (.deferred (some [])) := fun jump W4 hk4 => by
          have hl4 : W4.heap[w.heap.size + 1]? = some (.loop { rec .ready none with state := .busy }) := (hk4.block _ (.inl ⟨by omega, by omega⟩) (by omega)).trans hl3
          have := run_endRound (P := P) jump hl4
          rw [hrec] at this ⊢
          exact ⟨this, by simp, World.putObj_heap_same (Array.getElem?_eq_some_iff.1 hl4).1, (World.putObj_heap_other (by omega)).trans ((hk4.block _ (.inl ⟨by omega, by omega⟩) (by omega)).trans hk3)⟩
        have size4 : ∀ (jump : Option Code) (W4 : World), Keeps (fun k => (w.heap.size ≤ k ∧ k < w.heap.size + 2 + c) ∨ Cap k) W3 W4 →
            W.heap.size ≤ (W4.putObj (w.heap.size + 1) (.loop (rec (if jump.isNone then .ready else .done) jump))).heap.size := fun jump W4 hk4 => by
          have h1 := hkp.size
          have h2 := hk4.size
          have h3 := (fin jump W4 hk4).2.1
          omega
        rintro e a3 W4 hp
        cases e with
        | normal =>
          obtain ⟨hk4, hi4⟩ := hp
          obtain ⟨hr, _, hl5, hk5⟩ := fin none W4 hk4
          refine ⟨_, _, hr, .inl ⟨rfl, ⟨hI _ _ _ hi4 (Beside.putObj _ _ _ (by omega) (by omega)), hl5, hk5⟩, (hke3.trans (hk4.mono ?_)).trans (Keeps.putObj _ _ _ ?_)⟩⟩
          · rintro k (hk | hk)
            · exact .inl ⟨by omega, by omega⟩
            · exact .inr hk
          · rintro (hk | hk)
            · omega
            · have := hcap _ hk; omega
        | ret =>
          obtain ⟨hk4, hi4⟩ := hp
          obtain ⟨hr, _, hl5, hk5⟩ := fin (some .ret) W4 hk4
          exact ⟨_, _, hr, .inr ⟨rfl, ⟨.ret, hIx _ _ _ _ hi4 (Beside.putObj _ _ _ (by omega) (by omega)), hl5, hk5⟩, size4 (some .ret) W4 hk4⟩⟩
        | exit id =>
          obtain ⟨hk4, hi4⟩ := hp
          obtain ⟨hr, _, hl5, hk5⟩ := fin (some (.exit id)) W4 hk4
          exact ⟨_, _, hr, .inr ⟨rfl, ⟨.exit id, hIx _ _ _ _ hi4 (Beside.putObj _ _ _ (by omega) (by omega)), hl5, hk5⟩, size4 (some (.exit id)) W4 hk4⟩⟩
        | goto t =>
          obtain ⟨hk4, hi4⟩ := hp
          obtain ⟨hr, _, hl5, hk5⟩ := fin (some (.goto t)) W4 hk4
          exact ⟨_, _, hr, .inr ⟨rfl, ⟨.goto t, hIx _ _ _ _ hi4 (Beside.putObj _ _ _ (by omega) (by omega)), hl5, hk5⟩, size4 (some (.goto t)) W4 hk4⟩⟩
        | panic ch => exact hp.elim
        | outgrown => exact hp.elim
      | _ => exact hp1.elim
    · -- behind the iterator
      rintro e W2 ⟨⟨v, rfl⟩, (⟨hi, hl, hk⟩ | ⟨i, hiN, j, hj, hl, hk⟩)⟩
      · exact ⟨none, _, by have := run_endLoop (P := P) hl (by rw [hrec]; simp); rw [hrec] at this; exact this, hdone _ (hI _ _ _ hi (Beside.putObj _ _ _ (by omega) (by omega))) ((World.putObj_heap_other (by omega)).trans hk)⟩
      · exact ⟨some j, _, by have := run_endLoop (P := P) hl (by rw [hrec]; simp); rw [hrec] at this; exact this, hstop j i _ hiN (hIx _ _ _ _ hj (Beside.putObj _ _ _ (by omega) (by omega))) ((World.putObj_heap_other (by omega)).trans hk)⟩
end Go.Proofs.Ytdllgfkcakhoeaa
