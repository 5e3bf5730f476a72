/-
  Slices of commands in memory; the first of some indices; the model of a delta's check.
-/
import Derived.Test.YtkgamkjdkapchaaArr
import Derived.Test.YtkgamkjdkapchaaDel
import Derived.Test.YtkgamkjdkapchaaCmD
namespace Go.Proofs.Ytkgamkjdkapchaa
set_option linter.unusedVariables false
set_option linter.unusedSimpArgs false
set_option linter.unusedVariables false
open Go Go.RowKit
structure CV where
  k : Int
  t : Int
  f : Int
  l : Int
  A : Option Addr
  m : Nat
  c : Nat
  B : List Int
def cellsC (x : CV) : List Value := [Value.int .i64 x.k, Value.int .i64 x.t, Value.int .i64 x.f, Value.int .i64 x.l, Value.slice x.A x.m x.c]
def RowsC (w : World) (b off : Nat) (Cs : List CV) : Prop := ∀ (i : Nat) (x : CV), Cs[i]? = some x → ∀ j u, (cellsC x)[j]? = some u → w.cell? ⟨b, off + 5 * i + j, none⟩ = some u
def SrcC (w : World) (A : Option Addr) (m : Nat) (Cs : List CV) : Prop := Cs.length = m ∧ (m = 0 ∨ ∃ b off, A = some ⟨b, off, none⟩ ∧ b < w.heap.size ∧ RowsC w b off Cs)
def NumC (x : CV) : Prop := (-9223372036854775808 ≤ x.t ∧ x.t ≤ 9223372036854775807) ∧ (-9223372036854775808 ≤ x.f ∧ x.f ≤ 9223372036854775807) ∧ (-9223372036854775808 ≤ x.l ∧ x.l ≤ 9223372036854775807) ∧ x.m ≤ x.c ∧ x.m ≤ 140737488355327 ∧ x.c ≤ 9223372036854775807
def NumsC (Cs : List CV) : Prop := ∀ (i : Nat) (x : CV), Cs[i]? = some x → NumC x
theorem SrcC.at_ {w0 w : World} {H : List Ent} {A : Option Addr} {m : Nat} {Cs : List CV} (h : SrcC w0 A m Cs) (hs : St w0 H w) (hH : ∀ b, b < w0.heap.size → ∀ e ∈ H, e.g ≠ b) : SrcC w A m Cs := by
  refine ⟨h.1, ?_⟩
  rcases h.2 with h | ⟨b, off, hA, hb, hr⟩
  · exact .inl h
  · refine .inr ⟨b, off, hA, Nat.lt_of_lt_of_le hb hs.size, fun i x hx j u hu => ?_⟩
    rw [hs.old_cell (ad := ⟨b, _, none⟩) hb (hH b hb)]
    exact hr i x hx j u hu
theorem SrcC.some_ {w : World} {A : Option Addr} {m i : Nat} {Cs : List CV} (h : SrcC w A m Cs) (hi : i < m) : ∃ b off, A = some ⟨b, off, none⟩ ∧ b < w.heap.size ∧ RowsC w b off Cs := h.2.resolve_left (by omega)
theorem SrcC.get {w : World} {A : Option Addr} {m i : Nat} {Cs : List CV} (h : SrcC w A m Cs) (hi : i < m) : ∃ x, Cs[i]? = some x := ⟨_, List.getElem?_eq_getElem (by rw [h.1]; exact hi)⟩
/-- The target. -/
def tg (x : CV) : Int × Int := (x.t, lenV x.k x.l x.m)
/-- The first index that has a property. -/
def firstP (p : Nat → Prop) (m : Nat) (r : Option Nat) : Prop := (r = none ∧ ∀ i, i < m → ¬ p i) ∨ ∃ i, r = some i ∧ i < m ∧ p i ∧ ∀ j, j < i → ¬ p j
theorem firstP_unique {p : Nat → Prop} {m : Nat} {r s : Option Nat} (hr : firstP p m r) (hs : firstP p m s) : r = s := by
  rcases hr with ⟨rfl, h1⟩ | ⟨i, rfl, h1, h2, h3⟩ <;> rcases hs with ⟨rfl, k1⟩ | ⟨j, rfl, k1, k2, k3⟩
  · rfl
  · exact absurd k2 (h1 j k1)
  · exact absurd h2 (k1 i h1)
  · have a : ¬ i < j := fun c => k3 i c h2
    have b : ¬ j < i := fun c => h3 j c k2
    have : i = j := by omega
    rw [this]
theorem firstP_some {p : Nat → Prop} {m i : Nat} (h1 : i < m) (h2 : p i) (h3 : ∀ j, j < i → ¬ p j) : firstP p m (some i) := .inr ⟨i, rfl, h1, h2, h3⟩
theorem firstP_none {p : Nat → Prop} {m : Nat} (h : ∀ i, i < m → ¬ p i) : firstP p m none := .inl ⟨rfl, h⟩
def fewP (Cs : List CV) : Prop := (∀ (i : Nat) (x : CV), Cs[i]? = some x → x.m ≤ 300) ∧ Cs.length ≤ 40
def singleV (o n : Int) (x : CV) : Int :=
  if codeV x.k x.t x.f x.l x.m = 0 then (if x.k = 1 ∧ o < x.f + x.l then 5 else if n < x.t + lenV x.k x.l x.m then 6 else 0) else codeV x.k x.t x.f x.l x.m
/-- The command whose target has an offset, by its index. -/
def findV (Cs : List CV) (off : Int) (r : Int) : Prop := (r = -1 ∧ ∀ (i : Nat) (x : CV), Cs[i]? = some x → ¬ hasB (tg x) off) ∨ ∃ (i : Nat) (x : CV), r = i ∧ Cs[i]? = some x ∧ hasB (tg x) off ∧ ∀ (j : Nat) (y : CV), j < i → Cs[j]? = some y → ¬ hasB (tg y) off
theorem all_succ {α : Type} {Cs : List α} {p : α → Prop} {i : Nat} {x : α} (h : ∀ (j : Nat) (y : α), j < i → Cs[j]? = some y → p y) (hx : Cs[i]? = some x) (hp : p x) : ∀ (j : Nat) (y : α), j < i + 1 → Cs[j]? = some y → p y := fun j y hj hy => by
  by_cases hji : j = i
  · subst hji; rw [hx] at hy; cases hy; exact hp
  · exact h j y (by omega) hy
theorem all_of {α : Type} {Cs : List α} {p : α → Prop} {m : Nat} (hm : Cs.length ≤ m) (h : ∀ (j : Nat) (y : α), j < m → Cs[j]? = some y → p y) : ∀ (i : Nat) (x : α), Cs[i]? = some x → p x := fun i x hx => h i x (by have := (List.getElem?_eq_some_iff.1 hx).1; omega) hx
theorem sub_of {α : Type} {Cs : List α} {p : α → Prop} {m : Nat} (h : ∀ (i : Nat) (x : α), Cs[i]? = some x → p x) : ∀ (j : Nat) (y : α), j < m → Cs[j]? = some y → p y := fun j y _ hy => h j y hy
theorem lenV_bd {k l : Int} {m : Nat} (hl : -9223372036854775808 ≤ l ∧ l ≤ 9223372036854775807) (hm : m ≤ 140737488355327) : -9223372036854775808 ≤ lenV k l m ∧ lenV k l m ≤ 9223372036854775807 := by
  unfold lenV; split <;> omega
theorem codeV_facts {k t f l : Int} {m : Nat} (h : codeV k t f l m = 0) : vld t (lenV k l m) ∧ 1 ≤ lenV k l m ∧ (k = 1 → vld f l) := by
  rcases codeV0 h with rfl | rfl
  · obtain ⟨h1, h2, h3, h4⟩ := codeV1.1 h
    unfold lenV; rw [if_pos rfl]
    exact ⟨h3, by unfold vld at h3; omega, fun _ => h4⟩
  · obtain ⟨h1, h2, h3, h4⟩ := codeV2.1 h
    unfold lenV; rw [if_neg (by decide)]
    exact ⟨h4, by omega, fun h => by cases h⟩
theorem findV_unique {Cs : List CV} {off r s : Int} (hr : findV Cs off r) (hs : findV Cs off s) : r = s := by
  rcases hr with ⟨rfl, h1⟩ | ⟨i, x, rfl, h1, h2, h3⟩ <;> rcases hs with ⟨rfl, k1⟩ | ⟨j, y, rfl, k1, k2, k3⟩
  · rfl
  · exact absurd k2 (h1 j y k1)
  · exact absurd h2 (k1 i x h1)
  · have a : ¬ i < j := fun c => k3 i x c h1 h2
    have b : ¬ j < i := fun c => h3 j y c k1 k2
    have : i = j := by omega
    rw [this]
open Classical in
noncomputable def findI (Cs : List CV) (off : Int) : Int := if h : ∃ r, findV Cs off r then Classical.choose h else -1
theorem findI_is {Cs : List CV} {off r : Int} (h : findV Cs off r) : findI Cs off = r := by
  unfold findI
  rw [dif_pos ⟨r, h⟩]
  exact findV_unique (Classical.choose_spec (⟨r, h⟩ : ∃ r, findV Cs off r)) h
theorem find_total (Cs : List CV) (off : Int) : ∃ r, findV Cs off r := by
  by_cases h : ∃ (i : Nat) (x : CV), Cs[i]? = some x ∧ hasB (tg x) off
  · have hex : ∃ i, ∃ x, Cs[i]? = some x ∧ hasB (tg x) off := h
    obtain ⟨i, hi, hmin⟩ : ∃ i, (∃ x, Cs[i]? = some x ∧ hasB (tg x) off) ∧ ∀ j, (∃ x, Cs[j]? = some x ∧ hasB (tg x) off) → i ≤ j := by
      obtain ⟨i0, hi0⟩ := hex
      exact least_of i0 hi0
    obtain ⟨x, hx, hb⟩ := hi
    exact ⟨i, .inr ⟨i, x, rfl, hx, hb, fun j y hj hy hby => by have := hmin j ⟨y, hy, hby⟩; omega⟩⟩
  · exact ⟨-1, .inl ⟨rfl, fun i x hx hb => h ⟨i, x, hx, hb⟩⟩⟩
theorem findI_spec (Cs : List CV) (off : Int) : findV Cs off (findI Cs off) := by
  obtain ⟨r, h⟩ := find_total Cs off
  rw [findI_is h]; exact h
theorem findI_free {Cs : List CV} {off : Int} : findI Cs off < 0 ↔ freeT (Cs.map tg) off := by
  constructor
  · intro h p hp hb
    obtain ⟨x, hx, rfl⟩ := List.mem_map.1 hp
    obtain ⟨i, hi⟩ := List.mem_iff_getElem?.1 hx
    rcases findI_spec Cs off with ⟨_, h2⟩ | ⟨j, y, h2, _⟩
    · exact h2 i x hi hb
    · omega
  · intro h
    rcases findI_spec Cs off with ⟨h2, _⟩ | ⟨j, y, h2, h3, h4, _⟩
    · omega
    · exact absurd h4 (h _ (List.mem_map.2 ⟨y, List.mem_of_getElem? h3, rfl⟩))
open Classical in
noncomputable def gapI (n : Int) (Cs : List CV) : Int := if h : ∃ g, leastT n (Cs.map tg) g then Classical.choose h else -1
theorem gapI_is {n g : Int} {Cs : List CV} (h : leastT n (Cs.map tg) g) : gapI n Cs = g := by
  unfold gapI
  rw [dif_pos ⟨g, h⟩]
  exact leastT_unique (Classical.choose_spec (⟨g, h⟩ : ∃ g, leastT n (Cs.map tg) g)) h
theorem gapI_no {n : Int} {Cs : List CV} (h : coverT 0 n (Cs.map tg)) : gapI n Cs = -1 := by
  unfold gapI
  rw [dif_neg]
  rintro ⟨g, h1, h2, h3, _⟩
  obtain ⟨p, hp, hb⟩ := h g h1 h2
  exact h3 p hp hb
/-- The candidates among the first ones. -/
def candI (Cs : List CV) (i : Nat) (c : Int) : Prop := (1 ≤ i ∧ c = 0) ∨ ∃ (j : Nat) (x : CV), j + 1 < i ∧ Cs[j]? = some x ∧ c = (tg x).1 + (tg x).2
def gapQ (n : Int) (Cs : List CV) (i : Nat) (q : Int) : Prop := (q = -1 ∧ ∀ c, candI Cs i c → c < n → ¬ freeT (Cs.map tg) c) ∨ (0 ≤ q ∧ q < n ∧ freeT (Cs.map tg) q ∧ ∀ c, candI Cs i c → c < n → freeT (Cs.map tg) c → q ≤ c)
theorem gapQ_zero (n : Int) (Cs : List CV) : gapQ n Cs 0 (-1) := .inl ⟨rfl, fun c hc => by
  rcases hc with ⟨h, _⟩ | ⟨j, x, h, _⟩ <;> omega⟩
/-- One candidate more. -/
theorem gapQ_step {n q d r : Int} {Cs : List CV} {i : Nat} (h : gapQ n Cs i q) (hd : 0 ≤ d) (hc : ∀ c, candI Cs (i + 1) c → candI Cs i c ∨ c = d)
    (hr : (d < n ∧ freeT (Cs.map tg) d ∧ (q < 0 ∨ d < q) ∧ r = d) ∨ (¬ (d < n ∧ freeT (Cs.map tg) d ∧ (q < 0 ∨ d < q)) ∧ r = q)) : gapQ n Cs (i + 1) r := by
  rcases hr with ⟨h1, h2, h3, rfl⟩ | ⟨h1, rfl⟩
  · refine .inr ⟨hd, h1, h2, fun c hcc hcn hcf => ?_⟩
    rcases hc c hcc with hcc | rfl
    · rcases h with ⟨_, h⟩ | ⟨_, _, _, h⟩
      · exact absurd hcf (h c hcc hcn)
      · have := h c hcc hcn hcf; omega
    · exact Int.le_refl _
  · rcases h with ⟨hq, h⟩ | ⟨hq0, hqn, hqf, h⟩
    · refine .inl ⟨hq, fun c hcc hcn hcf => ?_⟩
      rcases hc c hcc with hcc | rfl
      · exact h c hcc hcn hcf
      · exact h1 ⟨hcn, hcf, .inl (by omega)⟩
    · refine .inr ⟨hq0, hqn, hqf, fun c hcc hcn hcf => ?_⟩
      rcases hc c hcc with hcc | rfl
      · exact h c hcc hcn hcf
      · have : ¬ c < r := fun hlt => h1 ⟨hcn, hcf, .inr hlt⟩
        omega
theorem candI_zero {Cs : List CV} : ∀ c, candI Cs (0 + 1) c → candI Cs 0 c ∨ c = 0 := fun c hc => by
  rcases hc with ⟨_, h⟩ | ⟨j, x, h, _⟩
  · exact .inr h
  · omega
theorem candI_succ {Cs : List CV} {i : Nat} {x : CV} (hx : Cs[i]? = some x) : ∀ c, candI Cs (i + 1 + 1) c → candI Cs (i + 1) c ∨ c = (tg x).1 + (tg x).2 := fun c hc => by
  rcases hc with ⟨_, h⟩ | ⟨j, y, h, hy, h2⟩
  · exact .inl (.inl ⟨by omega, h⟩)
  · by_cases hj : j = i
    · subst hj; rw [hx] at hy; cases hy; exact .inr h2
    · exact .inl (.inr ⟨j, y, by omega, hy, h2⟩)
theorem gap_end {n q : Int} {Cs : List CV} {m : Nat} (hm : Cs.length = m) (h : gapQ n Cs (m + 1) q) : gapI n Cs = q := by
  have hcand : ∀ c, candT (Cs.map tg) c → candI Cs (m + 1) c := fun c hc => by
    rcases hc with rfl | ⟨p, hp, rfl⟩
    · exact .inl ⟨by omega, rfl⟩
    · obtain ⟨x, hx, rfl⟩ := List.mem_map.1 hp
      obtain ⟨j, hj⟩ := List.mem_iff_getElem?.1 hx
      exact .inr ⟨j, x, by have := (List.getElem?_eq_some_iff.1 hj).1; omega, hj, rfl⟩
  rcases h with ⟨rfl, h⟩ | ⟨h0, hn, hf, h⟩
  · exact gapI_no (cover_of_cand fun c hc _ hcn => h c (hcand c hc) hcn)
  · exact gapI_is (leastT_of_cand h0 hn hf fun c hc _ hcn hcf => h c (hcand c hc) hcn hcf)
noncomputable instance (Cs : List CV) : Decidable (fewP Cs) := Classical.propDecidable _
/-! ### The fault of a delta -/
noncomputable def firstF (p : Nat → Prop) : Option Nat := @ite _ (∃ i, p i) (Classical.propDecidable _) (some (leastOf p)) none
theorem firstF_some {p : Nat → Prop} {i : Nat} (h : p i) (hm : ∀ j, j < i → ¬ p j) : firstF p = some i := by
  unfold firstF
  rw [if_pos ⟨i, h⟩]
  have h2 := leastOf_spec (p := p) h
  have h3 := h2.2 i h
  have h4 : ¬ leastOf p < i := fun hlt => hm _ hlt h2.1
  congr 1; omega
theorem firstF_none {p : Nat → Prop} (h : ∀ i, ¬ p i) : firstF p = none := by
  unfold firstF
  rw [if_neg (fun ⟨i, hi⟩ => h i hi)]
theorem firstF_spec {p : Nat → Prop} {i : Nat} (h : firstF p = some i) : p i ∧ ∀ j, j < i → ¬ p j := by
  unfold firstF at h
  by_cases he : ∃ i, p i
  · rw [if_pos he] at h
    cases h
    obtain ⟨j, hj⟩ := he
    have h2 := leastOf_spec (p := p) hj
    exact ⟨h2.1, fun k hk hpk => by have := h2.2 k hpk; omega⟩
  · rw [if_neg he] at h; cases h
theorem firstF_nope {p : Nat → Prop} (h : firstF p = none) : ∀ i, ¬ p i := fun i hi => by
  unfold firstF at h
  rw [if_pos ⟨i, hi⟩] at h; cases h
def okLen (o n : Int) : Prop := 0 ≤ o ∧ 0 ≤ n ∧ o ≤ 4611686018427387903 ∧ n ≤ 4611686018427387903
instance (o n : Int) : Decidable (okLen o n) := by unfold okLen; infer_instance
def bad1 (o n : Int) (Cs : List CV) (i : Nat) : Prop := ∃ x, Cs[i]? = some x ∧ singleV o n x ≠ 0
def bad2 (Cs : List CV) (i : Nat) : Prop := ∃ (x : CV) (j : Nat) (y : CV), Cs[i]? = some x ∧ j < i ∧ Cs[j]? = some y ∧ meets (tg x).1 (tg x).2 (tg y).1 (tg y).2
/-- The code and the place of the fault. -/
noncomputable def faultI (o n : Int) (Cs : List CV) : Int × Int :=
  if okLen o n then
    match firstF (bad1 o n Cs) with
    | some i => ((Cs[i]?).elim 0 (singleV o n), i)
    | none => match firstF (bad2 Cs) with
      | some i => (4, i)
      | none => if 0 ≤ gapI n Cs then (3, gapI n Cs) else (0, 0)
  else (2, -1)
theorem faultI_len {o n : Int} {Cs : List CV} (h : ¬ okLen o n) : faultI o n Cs = (2, -1) := by unfold faultI; rw [if_neg h]
theorem faultI_single {o n : Int} {Cs : List CV} {i : Nat} {x : CV} (h : okLen o n) (hx : Cs[i]? = some x) (hs : singleV o n x ≠ 0) (hb : ∀ (j : Nat) (y : CV), j < i → Cs[j]? = some y → singleV o n y = 0) : faultI o n Cs = (singleV o n x, (i : Int)) := by
  unfold faultI
  rw [if_pos h, firstF_some (p := bad1 o n Cs) ⟨x, hx, hs⟩ (fun j hj ⟨y, hy, hn⟩ => hn (hb j y hj hy))]
  simp [hx]
theorem no_bad1 {o n : Int} {Cs : List CV} (h : ∀ (i : Nat) (x : CV), Cs[i]? = some x → singleV o n x = 0) : firstF (bad1 o n Cs) = none := firstF_none fun i ⟨x, hx, hn⟩ => hn (h i x hx)
theorem faultI_over {o n : Int} {Cs : List CV} {i j : Nat} {x y : CV} (h : okLen o n) (h1 : ∀ (i : Nat) (x : CV), Cs[i]? = some x → singleV o n x = 0) (hx : Cs[i]? = some x) (hj : j < i) (hy : Cs[j]? = some y) (hm : meets (tg x).1 (tg x).2 (tg y).1 (tg y).2)
    (hb : ∀ i', i' < i → ¬ bad2 Cs i') : faultI o n Cs = (4, (i : Int)) := by
  unfold faultI
  rw [if_pos h, no_bad1 h1]
  simp only
  rw [firstF_some (p := bad2 Cs) ⟨x, j, y, hx, hj, hy, hm⟩ hb]
theorem faultI_gap {o n : Int} {Cs : List CV} (h : okLen o n) (h1 : ∀ (i : Nat) (x : CV), Cs[i]? = some x → singleV o n x = 0) (h2 : ∀ i, ¬ bad2 Cs i) : faultI o n Cs = if 0 ≤ gapI n Cs then (3, gapI n Cs) else (0, 0) := by
  unfold faultI
  rw [if_pos h, no_bad1 h1]
  simp only
  rw [firstF_none h2]
theorem bad2_succ {Cs : List CV} {i : Nat} {x : CV} (h : ∀ i', i' < i → ¬ bad2 Cs i') (hx : Cs[i]? = some x) (hn : ∀ (j : Nat) (y : CV), j < i → Cs[j]? = some y → ¬ meets (tg x).1 (tg x).2 (tg y).1 (tg y).2) : ∀ i', i' < i + 1 → ¬ bad2 Cs i' := fun i' hi' => by
  by_cases e : i' = i
  · subst e
    rintro ⟨x', j, y, hx', hj, hy, hm⟩
    rw [hx] at hx'; cases hx'
    exact hn j y hj hy hm
  · exact h i' (by omega)
theorem bad2_all {Cs : List CV} {m : Nat} (hm : Cs.length ≤ m) (h : ∀ i', i' < m → ¬ bad2 Cs i') : ∀ i, ¬ bad2 Cs i := fun i hb => by
  obtain ⟨x, j, y, hx, h2⟩ := hb
  exact h i (by have := (List.getElem?_eq_some_iff.1 hx).1; omega) ⟨x, j, y, hx, h2⟩
theorem single_vld {o n : Int} {x : CV} (h : singleV o n x = 0) : vld x.t (lenV x.k x.l x.m) ∧ 1 ≤ lenV x.k x.l x.m ∧ x.t + lenV x.k x.l x.m ≤ n ∧ codeV x.k x.t x.f x.l x.m = 0 ∧ (x.k = 1 → vld x.f x.l ∧ x.f + x.l ≤ o) := by
  unfold singleV at h
  by_cases hc : codeV x.k x.t x.f x.l x.m = 0
  · rw [if_pos hc] at h
    obtain ⟨h1, h2, h3⟩ := codeV_facts hc
    split at h
    · cases h
    · split at h
      · cases h
      · exact ⟨h1, h2, by omega, hc, fun hk => ⟨h3 hk, by omega⟩⟩
  · rw [if_neg hc] at h; exact absurd h hc
/-- A delta without a fault: its targets do not overlap and cover the new file. -/
theorem faultI_valid {o n : Int} {Cs : List CV} (h : (faultI o n Cs).1 = 0) : okLen o n ∧ (∀ (i : Nat) (x : CV), Cs[i]? = some x → singleV o n x = 0) ∧ (∀ i, ¬ bad2 Cs i) ∧ gapI n Cs < 0 := by
  unfold faultI at h
  by_cases hl : okLen o n
  · rw [if_pos hl] at h
    cases h1 : firstF (bad1 o n Cs) with
    | some i =>
      rw [h1] at h
      obtain ⟨x, hx, hn⟩ := (firstF_spec h1).1
      simp [hx] at h
      exact absurd h hn
    | none =>
      rw [h1] at h
      cases h2 : firstF (bad2 Cs) with
      | some i => rw [h2] at h; cases h
      | none =>
        rw [h2] at h
        refine ⟨hl, fun i x hx => Classical.byContradiction fun hn => firstF_nope h1 i ⟨x, hx, hn⟩, firstF_nope h2, ?_⟩
        simp only at h
        split at h
        · cases h
        · omega
  · rw [if_neg hl] at h; cases h
theorem meets_apart {p q : Int × Int} (hp : 1 ≤ p.2) (hq : 1 ≤ q.2) : ¬ meets p.1 p.2 q.1 q.2 ↔ apartT p q := by
  unfold meets apartT; omega
theorem tidy_of {o n : Int} {Cs : List CV} (h1 : ∀ (i : Nat) (x : CV), Cs[i]? = some x → singleV o n x = 0) (h2 : ∀ i, ¬ bad2 Cs i) : tidyT 0 n (Cs.map tg) := by
  refine ⟨fun p hp => ?_, ?_⟩
  · obtain ⟨x, hx, rfl⟩ := List.mem_map.1 hp
    obtain ⟨i, hi⟩ := List.mem_iff_getElem?.1 hx
    obtain ⟨a, b, c, _⟩ := single_vld (h1 i x hi)
    unfold vld at a
    unfold okT tg; dsimp only; omega
  · rw [List.pairwise_iff_getElem]
    intro i j hi hj hij
    simp only [List.length_map] at hi hj
    simp only [List.getElem_map]
    have hxi : Cs[i]? = some Cs[i] := List.getElem?_eq_getElem hi
    have hxj : Cs[j]? = some Cs[j] := List.getElem?_eq_getElem hj
    have ai := (single_vld (h1 i _ hxi)).2.1
    have aj := (single_vld (h1 j _ hxj)).2.1
    have := (meets_apart (p := tg Cs[j]) (q := tg Cs[i]) aj ai).1 (fun hm => h2 j ⟨_, i, _, hxj, hij, hxi, hm⟩)
    exact this.symm
theorem gap_cover {n : Int} {Cs : List CV} (h : gapI n Cs < 0) : coverT 0 n (Cs.map tg) := fun x hx hxn => by
  apply Classical.byContradiction
  intro hno
  have hf : freeT (Cs.map tg) x := fun p hp hb => hno ⟨p, hp, hb⟩
  have hex : ∃ g, leastT n (Cs.map tg) g := by
    obtain ⟨k, hk, hmin⟩ := least_of (p := fun k => (k : Int) < n ∧ freeT (Cs.map tg) (k : Int)) x.toNat ⟨by omega, by rw [Int.toNat_of_nonneg hx]; exact hf⟩
    refine ⟨k, by omega, hk.1, hk.2, fun y hy hyk hfy => ?_⟩
    have := hmin y.toNat ⟨by omega, by rw [Int.toNat_of_nonneg hy]; exact hfy⟩
    omega
  obtain ⟨g, hg⟩ := hex
  rw [gapI_is hg] at h
  have := hg.1
  omega
def ovO (o l p n : Int) : Int := if min (o + l) (p + n) ≤ max o p then 0 else max o p
def ovL (o l p n : Int) : Int := if min (o + l) (p + n) ≤ max o p then 0 else min (o + l) (p + n) - max o p
theorem ovL_meets (o l p n : Int) : 0 < ovL o l p n ↔ meets o l p n := by
  unfold ovL meets; split <;> omega
end Go.Proofs.Ytkgamkjdkapchaa
