/-
  The iterator over targets: what it has captured, what a round of it leaves.
-/
import Derived.Test.YtkgamkjdkapchaaRng
import Derived.Test.YtkgamkjdkapchaaTgt
namespace Go.Proofs.Ytkgamkjdkapchaa
set_option linter.unusedVariables false
set_option linter.unusedSimpArgs false
set_option linter.unusedVariables false
open Go Go.RowKit
theorem TE.retC1 {P : Program} {n : Sz} {w0 : World} {L : List (Nat × Value)} {H : List Ent} {fn : Func} {R : Ending → World → Prop} {i g off : Nat} {t : TypeId} {v : Value} {ex : Exit} (hres : fn.results = #[.cell i t]) (hag : (isAgg t).run P = fun w => .ok false w)
    (hx : look L i = some (.pointer (some ⟨g, off, none⟩))) (hc : At w0 H ⟨g, off, none⟩ v) (h : ∀ w, St w0 H w → R (.returned v) w) (hex : ex = .ret ∨ ex = .normal) (hds : n.ds = [] := by rfl) : TE (bodyPost P fn R) ex n w0 L H := fun a w hf hs => by
  have h1 : (a.tmps.getD i undef) = .pointer (some ⟨g, off, none⟩) := by simp [Array.getD_eq_getD_getElem?, hf.2.2 i _ hx]
  have key : a.defers = [] ∧ ∃ v, (results fn a.tmps).run P w = .ok v w ∧ R (.returned v) w := by
    refine ⟨hf.1.trans hds, v, ?_, h w hs⟩
    simp only [results, hres]
    simp [Sem.run_bind, loadVar, hag]
    simp only [Array.getD_eq_getD_getElem?] at h1
    simp [h1, asAddr, load, Sem.run, hc w hs]
  rcases hex with rfl | rfl
  · exact key
  · exact key
/-- What the iterator over targets has captured. -/
structure CapT (w : World) (b1 b2 g m : Nat) (Ts : List TV) (q : Int) : Prop where
  s : w.cell? ⟨b1, 0, none⟩ = some (.slice (some ⟨g, 0, none⟩) m m)
  x : w.cell? ⟨b2, 0, none⟩ = some (.int .i64 q)
  r : RowsT w g 0 Ts
  l : Ts.length = m
  h1 : b1 < w.heap.size
  h2 : b2 < w.heap.size
  h3 : g < w.heap.size
def capK (b1 b2 g : Nat) (k : Nat) : Prop := k = b1 ∨ k = b2 ∨ k = g
section
variable {P : Program} {w0 v w w' W : World} {b1 b2 g m : Nat} {Ts : List TV} {q : Int} {H : List Ent}
theorem CapT.lt (h : CapT w b1 b2 g m Ts q) {k : Nat} (hk : capK b1 b2 g k) : k < w.heap.size := by
  rcases hk with rfl | rfl | rfl
  · exact h.h1
  · exact h.h2
  · exact h.h3
theorem CapT.row (h : CapT w b1 b2 g m Ts q) {k : Nat} {x : TV} (hx : Ts[k]? = some x) {j : Nat} {u : Value} (hu : (cellsT x)[j]? = some u) : w.cell? ⟨g, 3 * k + j, none⟩ = some u := by
  have := h.r k x hx j u hu
  rw [Nat.zero_add] at this; exact this
theorem CapT.keep (h : CapT w b1 b2 g m Ts q) (hk : ∀ k, capK b1 b2 g k → w'.heap[k]? = w.heap[k]?) (hsz : w.heap.size ≤ w'.heap.size) : CapT w' b1 b2 g m Ts q :=
  ⟨(World.cell?_of_block (w := w) (hk b1 (.inl rfl))).trans h.s, (World.cell?_of_block (w := w) (hk b2 (.inr (.inl rfl)))).trans h.x, h.r.of_block (hk g (.inr (.inr rfl))), h.l, Nat.lt_of_lt_of_le h.h1 hsz, Nat.lt_of_lt_of_le h.h2 hsz, Nat.lt_of_lt_of_le h.h3 hsz⟩
theorem CapT.at_ (h : CapT w0 b1 b2 g m Ts q) (hs : St w0 H w) (hne : ∀ b, b < w0.heap.size → ∀ e ∈ H, e.g ≠ b) : CapT w b1 b2 g m Ts q :=
  h.keep (fun k hk => hs.old k (h.lt hk) (hne k (h.lt hk))) hs.size
theorem St.beside0 {lo : Nat} (h : St v H w) (hn : ∀ e ∈ H, v.heap.size ≤ e.g) : Beside lo (lo + 0) v w :=
  ⟨h.os, h.tape, h.output, h.size, fun k hk _ => h.old k hk (fun e he => by have := hn e he; omega)⟩
def eP (F : List (Int × Int)) (i : Nat) : Int × Int := F.getD i (0, 0)
theorem eP_of {F : List (Int × Int)} {i : Nat} {p : Int × Int} (h : F[i]? = some p) : eP F i = p := by unfold eP; rw [List.getD_eq_getElem?_getD, h]; rfl
theorem eP_at {F : List (Int × Int)} {i : Nat} (h : i < F.length) : F[i]? = some (eP F i) := by
  have h1 : F[i]? = some F[i] := List.getElem?_eq_getElem h
  rw [eP_of h1]; exact h1
def encP (F : List (Int × Int)) (i : Nat) : Value := .agg #[.int .i64 (eP F i).1, .int .i64 (eP F i).2]
theorem up_yield {l : Nat} {J Jx : Nat → World → Prop} {F : List (Int × Int)} {N cn : Nat} {p : Int × Int}
    (hJ : ∀ s A B, J s A → Beside W.heap.size (W.heap.size + 0) A B → J s B)
    (hY : ∀ i W1, i < N → J i W1 → W.heap.size + 0 ≤ W1.heap.size → YieldAt Fence.wide (2 - 1) P l #[encP F i] W1 fun e W' =>
      (e = .returned (.bool true) ∧ J (i + 1) W' ∧ Keeps (fun k => (W.heap.size ≤ k ∧ k < W.heap.size + 0) ∨ capK b1 b2 g k) W1 W') ∨ (e = .returned (.bool false) ∧ Jx (i + 1) W' ∧ W1.heap.size ≤ W'.heap.size))
    (hN : cn < N) (hp : F[cn]? = some p) (hj : J cn v) (hc : CapT v b1 b2 g m Ts q) (hsz : W.heap.size ≤ v.heap.size) (hs : St v H w) (hn : ∀ e ∈ H, v.heap.size ≤ e.g) :
    YieldAt Fence.wide 1 P l #[.agg #[.int .i64 p.1, .int .i64 p.2]] w fun e w' => (e = .returned (.bool true) ∧ (J (cn + 1) w' ∧ CapT w' b1 b2 g m Ts q ∧ W.heap.size ≤ w'.heap.size)) ∨ (e = .returned (.bool false) ∧ Jx (cn + 1) w') := by
  have hb := St.beside0 (lo := W.heap.size) hs hn
  have hsw := hs.size
  obtain ⟨fn, tmps, assign, body, h1, h2⟩ := hY cn w hN (hJ _ _ _ hj hb) (by omega)
  have he : encP F cn = .agg #[.int .i64 p.1, .int .i64 p.2] := by unfold encP; rw [eP_of hp]
  rw [he] at h1
  have hcw : CapT w b1 b2 g m Ts q := hc.keep (fun k hk => hs.old k (hc.lt hk) (fun e he => by have := hn e he; have := hc.lt hk; omega)) hsw
  refine ⟨fn, tmps, assign, body, h1, h2.mono ?_⟩
  rintro e w' (⟨he, hj', hk⟩ | ⟨he, hx, _⟩)
  · exact .inl ⟨he, hj', hcw.keep (fun k hk' => hk.block k (.inr hk') (hcw.lt hk')) hk.size, by have := hk.size; omega⟩
  · exact .inr ⟨he, hx⟩
theorem lies_call {e : Ent} (h : e.lies w) (hW : St w [] W) : e.lies W := h.of_block (hW.old _ h.lt (by simp))
theorem capT_of {t1 t2 : TypeId} (h1 : Ent.lies ⟨b1, t1, [.slice (some ⟨g, 0, none⟩) m m], 1⟩ w) (h2 : Ent.lies ⟨b2, t2, [.int .i64 q], 1⟩ w) (hr : RowsT w g 0 Ts) (hl : Ts.length = m) (hg : g < w.heap.size) : CapT w b1 b2 g m Ts q :=
  ⟨h1.cell rfl, h2.cell rfl, hr, hl, h1.lt, h2.lt, hg⟩
theorem nov_succ {F : List (Int × Int)} {i : Nat} {p : Int × Int} (h : ∀ j r, j < i → F[j]? = some r → endF F j ≤ r.1) (hp : F[i]? = some p) (hn : ¬ p.1 < endF F i) : ∀ j r, j < i + 1 → F[j]? = some r → endF F j ≤ r.1 := fun j r hj hr => by
  by_cases e : j = i
  · subst e; rw [hp] at hr; cases hr; omega
  · exact h j r (by omega) hr
theorem ngap_succ {F : List (Int × Int)} {i : Nat} {p : Int × Int} (h : ∀ j r, j < i → F[j]? = some r → r.1 ≤ endF F j) (hp : F[i]? = some p) (hn : ¬ endF F i < p.1) : ∀ j r, j < i + 1 → F[j]? = some r → r.1 ≤ endF F j := fun j r hj hr => by
  by_cases e : j = i
  · subst e; rw [hp] at hr; cases hr; omega
  · exact h j r (by omega) hr
theorem nov_end {F : List (Int × Int)} (h : ∀ j r, j < F.length → F[j]? = some r → endF F j ≤ r.1) : ¬ ovF F := by
  rintro ⟨i, p, hp, hlt⟩
  have := h i p (List.getElem?_eq_some_iff.1 hp).1 hp
  omega
/-- The first place below m at which p holds, or m. -/
noncomputable def lowI (p : Nat → Prop) (m : Nat) : Nat := match firstF (fun i => i < m ∧ p i) with
  | some i => i
  | none => m
theorem lowI_spec (p : Nat → Prop) (m : Nat) : (lowI p m < m ∧ p (lowI p m) ∨ lowI p m = m) ∧ ∀ j, j < lowI p m → j < m → ¬ p j := by
  unfold lowI
  cases h : firstF (fun i => i < m ∧ p i) with
  | some i =>
    have ⟨h1, h2⟩ := firstF_spec h
    exact ⟨.inl h1, fun j hj hjm hp => h2 j hj ⟨hjm, hp⟩⟩
  | none => exact ⟨.inr rfl, fun j hj hjm hp => firstF_nope h j ⟨hjm, hp⟩⟩
theorem lowI_is {p : Nat → Prop} {m k : Nat} (hk : k ≤ m) (h1 : ∀ j, j < k → ¬ p j) (h2 : k = m ∨ p k) : lowI p m = k := by
  obtain ⟨a, b⟩ := lowI_spec p m
  have c1 : ¬ k < lowI p m := fun hlt => by
    rcases h2 with h2 | h2
    · rcases a with a | a <;> omega
    · rcases a with a | a
      · exact b k hlt (by omega) h2
      · exact b k hlt (by omega) h2
  have c2 : ¬ lowI p m < k := fun hlt => by
    rcases a with a | a
    · exact h1 _ hlt a.2
    · omega
  omega
end
end Go.Proofs.Ytkgamkjdkapchaa
