/-
 The code of layer 5: upTo, its iterator, overlap, gap.
-/
import Derived.Test.YtegddcklbmonfaaGreatDoorYOrderPb
import Derived.RangeFuncNested
import Derived.RangeFuncLeaves
import Derived.Below
import Derived.Test.YtegddcklbmonfaaGreatDoorYOrderPa
/-
 Slices of commands in memory; the first of some indices; the model of a delta's check.
-/
namespace Go.Proofs.YtegddcklbmonfaaGreatDoor
set_option maxRecDepth 100000
set_option maxHeartbeats 2000000
open Go.Value (int slice)
set_option linter.unusedVariables false
set_option linter.unusedSimpArgs false
open Go Go.RowKit
structure CV where
 k : Int
 t : Int
 f : Int
 l : Int
 A : Option Addr
 m : Nat
 c : Nat
 B : List Int
def cellsC (x : CV) : List Value := [int .i64 x.k, int .i64 x.t, int .i64 x.f, int .i64 x.l, slice x.A x.m x.c]
def RowsC (w : World) (b off : Nat) (Cs : List CV) : Prop := ∀ (i : Nat) (x : CV), Cs[i]? = some x → ∀ j u, (cellsC x)[j]? = some u → w.cell? ⟨b, off + 5 * i + j, none⟩ = some u
def SrcC (w : World) (A : Option Addr) (m : Nat) (Cs : List CV) : Prop := Cs.length = m ∧ (m = 0 ∨ ∃ b off, A = some ⟨b, off, none⟩ ∧ b < w.heap.size ∧ RowsC w b off Cs)
def NumC (x : CV) : Prop := (-9223372036854775808 ≤ x.t ∧ x.t ≤ 9223372036854775807) ∧ (-9223372036854775808 ≤ x.f ∧ x.f ≤ 9223372036854775807) ∧ (-9223372036854775808 ≤ x.l ∧ x.l ≤ 9223372036854775807) ∧ x.m ≤ x.c ∧ x.m ≤ 140737488355327 ∧ x.c ≤ 9223372036854775807
def NumsC (Cs : List CV) : Prop := ∀ (i : Nat) (x : CV), Cs[i]? = some x → NumC x
theorem SrcC.at_ {w0 w : World} {H : List Ent} {A : Option Addr} {m : Nat} {Cs : List CV} (h : SrcC w0 A m Cs) (hs : St w0 H w) (hH : ∀ b, b < w0.heap.size → ∀ e ∈ H, e.g ≠ b) : SrcC w A m Cs := by
 refine ⟨h.1, ?_⟩
 rcases h.2 with h | ⟨b, off, hA, hb, hr⟩
 ·exact .inl h
 ·refine .inr ⟨b, off, hA, Nat.lt_of_lt_of_le hb hs.size, fun i x hx j u hu => ?_⟩
  rw [hs.old_cell (ad := ⟨b, _, none⟩) hb (hH b hb)]
  exact hr i x hx j u hu
theorem SrcC.some_ {w : World} {A : Option Addr} {m i : Nat} {Cs : List CV} (h : SrcC w A m Cs) (hi : i < m) : ∃ b off, A = some ⟨b, off, none⟩ ∧ b < w.heap.size ∧ RowsC w b off Cs := h.2.resolve_left (by omega)
theorem SrcC.get {w : World} {A : Option Addr} {m i : Nat} {Cs : List CV} (h : SrcC w A m Cs) (hi : i < m) : ∃ x, Cs[i]? = some x := ⟨_, List.getElem?_eq_getElem (by rw [h.1]; exact hi)⟩
def tg (x : CV) : Int × Int := (x.t, lenV x.k x.l x.m)
def fewP (Cs : List CV) : Prop := (∀ (i : Nat) (x : CV), Cs[i]? = some x → x.m ≤ 300) ∧ Cs.length ≤ 40
def singleV (o n : Int) (x : CV) : Int :=
 if codeV x.k x.t x.f x.l x.m = 0 then (if x.k = 1 ∧ o < x.f + x.l then 5 else if n < x.t + lenV x.k x.l x.m then 6 else 0) else codeV x.k x.t x.f x.l x.m
def findV (Cs : List CV) (off : Int) (r : Int) : Prop := (r = -1 ∧ ∀ (i : Nat) (x : CV), Cs[i]? = some x → ¬ hasB (tg x) off) ∨ ∃ (i : Nat) (x : CV), r = i ∧ Cs[i]? = some x ∧ hasB (tg x) off ∧ ∀ (j : Nat) (y : CV), j < i → Cs[j]? = some y → ¬ hasB (tg y) off
theorem all_succ {α : Type} {Cs : List α} {p : α → Prop} {i : Nat} {x : α} (h : ∀ (j : Nat) (y : α), j < i → Cs[j]? = some y → p y) (hx : Cs[i]? = some x) (hp : p x) : ∀ (j : Nat) (y : α), j < i + 1 → Cs[j]? = some y → p y := fun j y hj hy => by
 by_cases hji : j = i
 ·subst hji; rw [hx] at hy; cases hy; exact hp
 ·exact h j y (by omega) hy
theorem all_of {α : Type} {Cs : List α} {p : α → Prop} {m : Nat} (hm : Cs.length ≤ m) (h : ∀ (j : Nat) (y : α), j < m → Cs[j]? = some y → p y) : ∀ (i : Nat) (x : α), Cs[i]? = some x → p x := fun i x hx => h i x (by have := (List.getElem?_eq_some_iff.1 hx).1; omega) hx
theorem lenV_bd {k l : Int} {m : Nat} (hl : -9223372036854775808 ≤ l ∧ l ≤ 9223372036854775807) (hm : m ≤ 140737488355327) : -9223372036854775808 ≤ lenV k l m ∧ lenV k l m ≤ 9223372036854775807 := by
 unfold lenV; split <;> omega
theorem codeV_facts {k t f l : Int} {m : Nat} (h : codeV k t f l m = 0) : vld t (lenV k l m) ∧ 1 ≤ lenV k l m ∧ (k = 1 → vld f l) := by
 rcases codeV0 h with rfl | rfl
 ·obtain ⟨h1, h2, h3, h4⟩ := codeV1.1 h
  unfold lenV; rw [if_pos rfl]
  exact ⟨h3, by unfold vld at h3; omega, fun _ => h4⟩
 ·obtain ⟨h1, h2, h3, h4⟩ := codeV2.1 h
  unfold lenV; rw [if_neg (by decide)]
  exact ⟨h4, by omega, fun h => by cases h⟩
theorem findV_unique {Cs : List CV} {off r s : Int} (hr : findV Cs off r) (hs : findV Cs off s) : r = s := by
 rcases hr with ⟨rfl, h1⟩ | ⟨i, x, rfl, h1, h2, h3⟩ <;> rcases hs with ⟨rfl, k1⟩ | ⟨j, y, rfl, k1, k2, k3⟩
 ·rfl
 ·exact absurd k2 (h1 j y k1)
 ·exact absurd h2 (k1 i x h1)
 ·have a : ¬ i < j := fun c => k3 i x c h1 h2
  have b : ¬ j < i := fun c => h3 j y c k1 k2
  have : i = j := by omega
  rw [this]
open Classical in
noncomputable def findI (Cs : List CV) (off : Int) : Int := if h : ∃ r, findV Cs off r then Classical.choose h else -1
theorem findI_is {Cs : List CV} {off r : Int} (h : findV Cs off r) : findI Cs off = r := by
 unfold findI
 rw [dif_pos ⟨r, h⟩]
 exact findV_unique (Classical.choose_spec (⟨r, h⟩ : ∃ r, findV Cs off r)) h
theorem find_total (Cs : List CV) (off : Int) : ∃ r, findV Cs off r := by
 by_cases h : ∃ (i : Nat) (x : CV), Cs[i]? = some x ∧ hasB (tg x) off
 ·have hex : ∃ i, ∃ x, Cs[i]? = some x ∧ hasB (tg x) off := h
  obtain ⟨i, hi, hmin⟩ : ∃ i, (∃ x, Cs[i]? = some x ∧ hasB (tg x) off) ∧ ∀ j, (∃ x, Cs[j]? = some x ∧ hasB (tg x) off) → i ≤ j := by
   obtain ⟨i0, hi0⟩ := hex
   exact least_of i0 hi0
  obtain ⟨x, hx, hb⟩ := hi
  exact ⟨i, .inr ⟨i, x, rfl, hx, hb, fun j y hj hy hby => by have := hmin j ⟨y, hy, hby⟩; omega⟩⟩
 ·exact ⟨-1, .inl ⟨rfl, fun i x hx hb => h ⟨i, x, hx, hb⟩⟩⟩
theorem findI_spec (Cs : List CV) (off : Int) : findV Cs off (findI Cs off) := by
 obtain ⟨r, h⟩ := find_total Cs off
 rw [findI_is h]; exact h
theorem findI_free {Cs : List CV} {off : Int} : findI Cs off < 0 ↔ freeT (Cs.map tg) off := by
 constructor
 ·intro h p hp hb
  obtain ⟨x, hx, rfl⟩ := List.mem_map.1 hp
  obtain ⟨i, hi⟩ := List.mem_iff_getElem?.1 hx
  rcases findI_spec Cs off with ⟨_, h2⟩ | ⟨j, y, h2, _⟩
  ·exact h2 i x hi hb
  ·omega
 ·intro h
  rcases findI_spec Cs off with ⟨h2, _⟩ | ⟨j, y, h2, h3, h4, _⟩
  ·omega
  ·exact absurd h4 (h _ (List.mem_map.2 ⟨y, List.mem_of_getElem? h3, rfl⟩))
open Classical in
noncomputable def gapI (n : Int) (Cs : List CV) : Int := if h : ∃ g, leastT n (Cs.map tg) g then Classical.choose h else -1
theorem gapI_is {n g : Int} {Cs : List CV} (h : leastT n (Cs.map tg) g) : gapI n Cs = g := by
 unfold gapI
 rw [dif_pos ⟨g, h⟩]
 exact leastT_unique (Classical.choose_spec (⟨g, h⟩ : ∃ g, leastT n (Cs.map tg) g)) h
theorem gapI_no {n : Int} {Cs : List CV} (h : coverT 0 n (Cs.map tg)) : gapI n Cs = -1 := by
 unfold gapI
 rw [dif_neg]
 rintro ⟨g, h1, h2, h3, _⟩
 obtain ⟨p, hp, hb⟩ := h g h1 h2
 exact h3 p hp hb
def candI (Cs : List CV) (i : Nat) (c : Int) : Prop := (1 ≤ i ∧ c = 0) ∨ ∃ (j : Nat) (x : CV), j + 1 < i ∧ Cs[j]? = some x ∧ c = (tg x).1 + (tg x).2
def gapQ (n : Int) (Cs : List CV) (i : Nat) (q : Int) : Prop := (q = -1 ∧ ∀ c, candI Cs i c → c < n → ¬ freeT (Cs.map tg) c) ∨ (0 ≤ q ∧ q < n ∧ freeT (Cs.map tg) q ∧ ∀ c, candI Cs i c → c < n → freeT (Cs.map tg) c → q ≤ c)
theorem gapQ_zero (n : Int) (Cs : List CV) : gapQ n Cs 0 (-1) := .inl ⟨rfl, fun c hc => by
 rcases hc with ⟨h, _⟩ | ⟨j, x, h, _⟩ <;> omega⟩
theorem gapQ_step {n q d r : Int} {Cs : List CV} {i : Nat} (h : gapQ n Cs i q) (hd : 0 ≤ d) (hc : ∀ c, candI Cs (i + 1) c → candI Cs i c ∨ c = d)
  (hr : (d < n ∧ freeT (Cs.map tg) d ∧ (q < 0 ∨ d < q) ∧ r = d) ∨ (¬ (d < n ∧ freeT (Cs.map tg) d ∧ (q < 0 ∨ d < q)) ∧ r = q)) : gapQ n Cs (i + 1) r := by
 rcases hr with ⟨h1, h2, h3, rfl⟩ | ⟨h1, rfl⟩
 ·refine .inr ⟨hd, h1, h2, fun c hcc hcn hcf => ?_⟩
  rcases hc c hcc with hcc | rfl
  ·rcases h with ⟨_, h⟩ | ⟨_, _, _, h⟩
   ·exact absurd hcf (h c hcc hcn)
   ·have := h c hcc hcn hcf; omega
  ·exact Int.le_refl _
 ·rcases h with ⟨hq, h⟩ | ⟨hq0, hqn, hqf, h⟩
  ·refine .inl ⟨hq, fun c hcc hcn hcf => ?_⟩
   rcases hc c hcc with hcc | rfl
   ·exact h c hcc hcn hcf
   ·exact h1 ⟨hcn, hcf, .inl (by omega)⟩
  ·refine .inr ⟨hq0, hqn, hqf, fun c hcc hcn hcf => ?_⟩
   rcases hc c hcc with hcc | rfl
   ·exact h c hcc hcn hcf
   ·have : ¬ c < r := fun hlt => h1 ⟨hcn, hcf, .inr hlt⟩
    omega
theorem candI_zero {Cs : List CV} : ∀ c, candI Cs (0 + 1) c → candI Cs 0 c ∨ c = 0 := fun c hc => by
 rcases hc with ⟨_, h⟩ | ⟨j, x, h, _⟩
 ·exact .inr h
 ·omega
theorem candI_succ {Cs : List CV} {i : Nat} {x : CV} (hx : Cs[i]? = some x) : ∀ c, candI Cs (i + 1 + 1) c → candI Cs (i + 1) c ∨ c = (tg x).1 + (tg x).2 := fun c hc => by
 rcases hc with ⟨_, h⟩ | ⟨j, y, h, hy, h2⟩
 ·exact .inl (.inl ⟨by omega, h⟩)
 ·by_cases hj : j = i
  ·subst hj; rw [hx] at hy; cases hy; exact .inr h2
  ·exact .inl (.inr ⟨j, y, by omega, hy, h2⟩)
theorem gap_end {n q : Int} {Cs : List CV} {m : Nat} (hm : Cs.length = m) (h : gapQ n Cs (m + 1) q) : gapI n Cs = q := by
 have hcand : ∀ c, candT (Cs.map tg) c → candI Cs (m + 1) c := fun c hc => by
  rcases hc with rfl | ⟨p, hp, rfl⟩
  ·exact .inl ⟨by omega, rfl⟩
  ·obtain ⟨x, hx, rfl⟩ := List.mem_map.1 hp
   obtain ⟨j, hj⟩ := List.mem_iff_getElem?.1 hx
   exact .inr ⟨j, x, by have := (List.getElem?_eq_some_iff.1 hj).1; omega, hj, rfl⟩
 rcases h with ⟨rfl, h⟩ | ⟨h0, hn, hf, h⟩
 ·exact gapI_no (cover_of_cand fun c hc _ hcn => h c (hcand c hc) hcn)
 ·exact gapI_is (leastT_of_cand h0 hn hf fun c hc _ hcn hcf => h c (hcand c hc) hcn hcf)
noncomputable instance (Cs : List CV) : Decidable (fewP Cs) := Classical.propDecidable _
noncomputable def firstF (p : Nat → Prop) : Option Nat := @ite _ (∃ i, p i) (Classical.propDecidable _) (some (leastOf p)) none
theorem firstF_some {p : Nat → Prop} {i : Nat} (h : p i) (hm : ∀ j, j < i → ¬ p j) : firstF p = some i := by
 unfold firstF
 rw [if_pos ⟨i, h⟩]
 have h2 := leastOf_spec (p := p) h
 have h3 := h2.2 i h
 have h4 : ¬ leastOf p < i := fun hlt => hm _ hlt h2.1
 congr 1; omega
theorem firstF_none {p : Nat → Prop} (h : ∀ i, ¬ p i) : firstF p = none := by
 unfold firstF
 rw [if_neg (fun ⟨i, hi⟩ => h i hi)]
theorem firstF_spec {p : Nat → Prop} {i : Nat} (h : firstF p = some i) : p i ∧ ∀ j, j < i → ¬ p j := by
 unfold firstF at h
 by_cases he : ∃ i, p i
 ·rw [if_pos he] at h
  cases h
  obtain ⟨j, hj⟩ := he
  have h2 := leastOf_spec (p := p) hj
  exact ⟨h2.1, fun k hk hpk => by have := h2.2 k hpk; omega⟩
 ·rw [if_neg he] at h; cases h
theorem firstF_nope {p : Nat → Prop} (h : firstF p = none) : ∀ i, ¬ p i := fun i hi => by
 unfold firstF at h
 rw [if_pos ⟨i, hi⟩] at h; cases h
def okLen (o n : Int) : Prop := 0 ≤ o ∧ 0 ≤ n ∧ o ≤ 4611686018427387903 ∧ n ≤ 4611686018427387903
instance (o n : Int) : Decidable (okLen o n) := by unfold okLen; infer_instance
def bad1 (o n : Int) (Cs : List CV) (i : Nat) : Prop := ∃ x, Cs[i]? = some x ∧ singleV o n x ≠ 0
def bad2 (Cs : List CV) (i : Nat) : Prop := ∃ (x : CV) (j : Nat) (y : CV), Cs[i]? = some x ∧ j < i ∧ Cs[j]? = some y ∧ meets (tg x).1 (tg x).2 (tg y).1 (tg y).2
noncomputable def faultI (o n : Int) (Cs : List CV) : Int × Int :=
 if okLen o n then
  match firstF (bad1 o n Cs) with
  | some i => ((Cs[i]?).elim 0 (singleV o n), i)
  | none => match firstF (bad2 Cs) with
   | some i => (4, i)
   | none => if 0 ≤ gapI n Cs then (3, gapI n Cs) else (0, 0)
 else (2, -1)
theorem faultI_len {o n : Int} {Cs : List CV} (h : ¬ okLen o n) : faultI o n Cs = (2, -1) := by unfold faultI; rw [if_neg h]
theorem faultI_single {o n : Int} {Cs : List CV} {i : Nat} {x : CV} (h : okLen o n) (hx : Cs[i]? = some x) (hs : singleV o n x ≠ 0) (hb : ∀ (j : Nat) (y : CV), j < i → Cs[j]? = some y → singleV o n y = 0) : faultI o n Cs = (singleV o n x, (i : Int)) := by
 unfold faultI
 rw [if_pos h, firstF_some (p := bad1 o n Cs) ⟨x, hx, hs⟩ (fun j hj ⟨y, hy, hn⟩ => hn (hb j y hj hy))]
 simp [hx]
theorem no_bad1 {o n : Int} {Cs : List CV} (h : ∀ (i : Nat) (x : CV), Cs[i]? = some x → singleV o n x = 0) : firstF (bad1 o n Cs) = none := firstF_none fun i ⟨x, hx, hn⟩ => hn (h i x hx)
theorem faultI_over {o n : Int} {Cs : List CV} {i j : Nat} {x y : CV} (h : okLen o n) (h1 : ∀ (i : Nat) (x : CV), Cs[i]? = some x → singleV o n x = 0) (hx : Cs[i]? = some x) (hj : j < i) (hy : Cs[j]? = some y) (hm : meets (tg x).1 (tg x).2 (tg y).1 (tg y).2)
  (hb : ∀ i', i' < i → ¬ bad2 Cs i') : faultI o n Cs = (4, (i : Int)) := by
 unfold faultI
 rw [if_pos h, no_bad1 h1]
 simp only
 rw [firstF_some (p := bad2 Cs) ⟨x, j, y, hx, hj, hy, hm⟩ hb]
theorem faultI_gap {o n : Int} {Cs : List CV} (h : okLen o n) (h1 : ∀ (i : Nat) (x : CV), Cs[i]? = some x → singleV o n x = 0) (h2 : ∀ i, ¬ bad2 Cs i) : faultI o n Cs = if 0 ≤ gapI n Cs then (3, gapI n Cs) else (0, 0) := by
 unfold faultI
 rw [if_pos h, no_bad1 h1]
 simp only
 rw [firstF_none h2]
theorem bad2_succ {Cs : List CV} {i : Nat} {x : CV} (h : ∀ i', i' < i → ¬ bad2 Cs i') (hx : Cs[i]? = some x) (hn : ∀ (j : Nat) (y : CV), j < i → Cs[j]? = some y → ¬ meets (tg x).1 (tg x).2 (tg y).1 (tg y).2) : ∀ i', i' < i + 1 → ¬ bad2 Cs i' := fun i' hi' => by
 by_cases e : i' = i
 ·subst e
  rintro ⟨x', j, y, hx', hj, hy, hm⟩
  rw [hx] at hx'; cases hx'
  exact hn j y hj hy hm
 ·exact h i' (by omega)
theorem bad2_all {Cs : List CV} {m : Nat} (hm : Cs.length ≤ m) (h : ∀ i', i' < m → ¬ bad2 Cs i') : ∀ i, ¬ bad2 Cs i := fun i hb => by
 obtain ⟨x, j, y, hx, h2⟩ := hb
 exact h i (by have := (List.getElem?_eq_some_iff.1 hx).1; omega) ⟨x, j, y, hx, h2⟩
theorem single_vld {o n : Int} {x : CV} (h : singleV o n x = 0) : vld x.t (lenV x.k x.l x.m) ∧ 1 ≤ lenV x.k x.l x.m ∧ x.t + lenV x.k x.l x.m ≤ n ∧ codeV x.k x.t x.f x.l x.m = 0 ∧ (x.k = 1 → vld x.f x.l ∧ x.f + x.l ≤ o) := by
 unfold singleV at h
 by_cases hc : codeV x.k x.t x.f x.l x.m = 0
 ·rw [if_pos hc] at h
  obtain ⟨h1, h2, h3⟩ := codeV_facts hc
  split at h
  ·cases h
  ·split at h
   ·cases h
   ·exact ⟨h1, h2, by omega, hc, fun hk => ⟨h3 hk, by omega⟩⟩
 ·rw [if_neg hc] at h; exact absurd h hc
theorem faultI_valid {o n : Int} {Cs : List CV} (h : (faultI o n Cs).1 = 0) : okLen o n ∧ (∀ (i : Nat) (x : CV), Cs[i]? = some x → singleV o n x = 0) ∧ (∀ i, ¬ bad2 Cs i) ∧ gapI n Cs < 0 := by
 unfold faultI at h
 by_cases hl : okLen o n
 ·rw [if_pos hl] at h
  cases h1 : firstF (bad1 o n Cs) with
  | some i =>
   rw [h1] at h
   obtain ⟨x, hx, hn⟩ := (firstF_spec h1).1
   simp [hx] at h
   exact absurd h hn
  | none =>
   rw [h1] at h
   cases h2 : firstF (bad2 Cs) with
   | some i => rw [h2] at h; cases h
   | none =>
    rw [h2] at h
    refine ⟨hl, fun i x hx => Classical.byContradiction fun hn => firstF_nope h1 i ⟨x, hx, hn⟩, firstF_nope h2, ?_⟩
    simp only at h
    split at h
    ·cases h
    ·omega
 ·rw [if_neg hl] at h; cases h
theorem meets_apart {p q : Int × Int} (hp : 1 ≤ p.2) (hq : 1 ≤ q.2) : ¬ meets p.1 p.2 q.1 q.2 ↔ apartT p q := by
 unfold meets apartT; omega
theorem tidy_of {o n : Int} {Cs : List CV} (h1 : ∀ (i : Nat) (x : CV), Cs[i]? = some x → singleV o n x = 0) (h2 : ∀ i, ¬ bad2 Cs i) : tidyT 0 n (Cs.map tg) := by
 refine ⟨fun p hp => ?_, ?_⟩
 ·obtain ⟨x, hx, rfl⟩ := List.mem_map.1 hp
  obtain ⟨i, hi⟩ := List.mem_iff_getElem?.1 hx
  obtain ⟨a, b, c, _⟩ := single_vld (h1 i x hi)
  unfold vld at a
  unfold okT tg; dsimp only; omega
 ·rw [List.pairwise_iff_getElem]
  intro i j hi hj hij
  simp only [List.length_map] at hi hj
  simp only [List.getElem_map]
  have hxi : Cs[i]? = some Cs[i] := List.getElem?_eq_getElem hi
  have hxj : Cs[j]? = some Cs[j] := List.getElem?_eq_getElem hj
  have ai := (single_vld (h1 i _ hxi)).2.1
  have aj := (single_vld (h1 j _ hxj)).2.1
  have := (meets_apart (p := tg Cs[j]) (q := tg Cs[i]) aj ai).1 (fun hm => h2 j ⟨_, i, _, hxj, hij, hxi, hm⟩)
  exact this.symm
theorem gap_cover {n : Int} {Cs : List CV} (h : gapI n Cs < 0) : coverT 0 n (Cs.map tg) := fun x hx hxn => by
 apply Classical.byContradiction
 intro hno
 have hf : freeT (Cs.map tg) x := fun p hp hb => hno ⟨p, hp, hb⟩
 have hex : ∃ g, leastT n (Cs.map tg) g := by
  obtain ⟨k, hk, hmin⟩ := least_of (p := fun k => (k : Int) < n ∧ freeT (Cs.map tg) (k : Int)) x.toNat ⟨by omega, by rw [Int.toNat_of_nonneg hx]; exact hf⟩
  refine ⟨k, by omega, hk.1, hk.2, fun y hy hyk hfy => ?_⟩
  have := hmin y.toNat ⟨by omega, by rw [Int.toNat_of_nonneg hy]; exact hfy⟩
  omega
 obtain ⟨g, hg⟩ := hex
 rw [gapI_is hg] at h
 have := hg.1
 omega
def ovO (o l p n : Int) : Int := if min (o + l) (p + n) ≤ max o p then 0 else max o p
def ovL (o l p n : Int) : Int := if min (o + l) (p + n) ≤ max o p then 0 else min (o + l) (p + n) - max o p
theorem ovL_meets (o l p n : Int) : 0 < ovL o l p n ↔ meets o l p n := by
 unfold ovL meets; split <;> omega
/-
 Sums over commands: copied and literal bytes.
-/
def cpV (x : CV) : Int := if x.k = 1 then x.l else 0
def ltV (x : CV) : Int := if x.k = 1 then 0 else (x.m : Int)
def lnV (x : CV) : Int := lenV x.k x.l x.m
structure ValidC (o n : Int) (Cs : List CV) : Prop where
 len : okLen o n
 single : ∀ (i : Nat) (x : CV), Cs[i]? = some x → singleV o n x = 0
 tidy : tidyT 0 n (Cs.map tg)
 cover : coverT 0 n (Cs.map tg)
 sum : sumT (Cs.map tg) = n
 pos : ∀ x ∈ Cs, 0 ≤ cpV x ∧ 0 ≤ ltV x ∧ 1 ≤ lnV x
theorem validC {o n : Int} {Cs : List CV} (h : (faultI o n Cs).1 = 0) : ValidC o n Cs := by
 obtain ⟨h1, h2, h3, h4⟩ := faultI_valid h
 have ht := tidy_of h2 h3
 have hc := gap_cover h4
 have h1' := h1
 unfold okLen at h1'
 have hs := sum_of_cover (a := 0) (by omega) ht hc
 refine ⟨h1, h2, ht, hc, by omega, fun x hx => ?_⟩
 obtain ⟨i, hi⟩ := List.mem_iff_getElem?.1 hx
 have := single_vld (h2 i x hi)
 have h5 := this.2.1
 unfold cpV ltV lnV
 unfold lenV at h5 ⊢
 split at h5 <;> rename_i hk <;> simp only [hk, if_true, if_false] <;> omega
theorem ValidC.vld {o n : Int} {Cs : List CV} (h : ValidC o n Cs) : ∀ (i : Nat) (x : CV), Cs[i]? = some x → vld x.t (lenV x.k x.l x.m) := fun i x hx => (single_vld (h.single i x hx)).1
/-
 Contracts of Same.
-/
def sameP (k t f l k2 t2 f2 l2 : Int) (B B2 : List Int) : Prop := k = k2 ∧ t = t2 ∧ f = f2 ∧ l = l2 ∧ B = B2
instance (k t f l k2 t2 f2 l2 : Int) (B B2 : List Int) : Decidable (sameP k t f l k2 t2 f2 l2 B B2) := by unfold sameP; infer_instance
theorem bytes_no : Bytes [] := fun x hx => by cases hx
theorem src_no {w : World} {A : Option Addr} : Src w A 0 .u8 [] := ⟨rfl, .inl rfl⟩
theorem rsame_c (k t f l k2 t2 f2 l2 : Int) (A A2 : Option Addr) (m c m2 c2 : Nat) (B B2 : List Int) (hB : Bytes B) (hB2 : Bytes B2) (w : World) (hsA : Src w A m .u8 B) (hsB : Src w A2 m2 .u8 B2) : Calls Tryz.prog 47 #[.agg ([int .i64 k, int .i64 t, int .i64 f, int .i64 l, slice A m c]).toArray, .agg ([int .i64 k2, int .i64 t2, int .i64 f2, int .i64 l2, slice A2 m2 c2]).toArray] w fun e w' => e = .returned (.bool (decide (sameP k t f l k2 t2 f2 l2 B B2))) ∧ St w [] w' := by
 refine qM (args := [.agg ([int .i64 k, int .i64 t, int .i64 f, int .i64 l, slice A m c]).toArray, .agg ([int .i64 k2, int .i64 t2, int .i64 f2, int .i64 l2, slice A2 m2 c2]).toArray]) Tryz.func47 rfl Tryz.ntmps47 (by simp) ?_
 refine qC [0, 1] ?_
 iterate 2 refine gx ?_
 refine qe (fun g1 hg1 => ?_)
 refine qe (fun g2 hg2 => ?_)
 iterate 9 refine gx ?_
 by_cases q1 : k = k2
 ·refine qB (qA rfl) rfl (qV (qj rfl rfl rfl) q1) ?_
  iterate 5 refine gx ?_
  by_cases q2 : t = t2
  ·refine qB (qI rfl rfl rfl) rfl (qV (qj rfl rfl rfl) q2) ?_
   iterate 6 refine gx ?_
   by_cases q3 : f = f2
   ·refine qB (qI rfl rfl rfl) rfl (qV (qj rfl rfl rfl) q3) ?_
    iterate 6 refine gx ?_
    by_cases q4 : l = l2
    ·refine qB (qI rfl rfl rfl) rfl (qV (qj rfl rfl rfl) q4) ?_
     iterate 4 refine gx ?_
     refine qB (qI rfl rfl rfl) rfl (Gets.b2s rfl Tryz.underlying22 Tryz.underlying9 Tryz.underlying5 rfl (fun w hs => (hsA.at_ hs (fun b hb => (qD (by show g2 ≠ b; omega) (qD (by show g1 ≠ b; omega) qE)))))) ?_
     iterate 2 refine gx ?_
     refine qB (qI rfl rfl rfl) rfl (Gets.b2s rfl Tryz.underlying22 Tryz.underlying9 Tryz.underlying5 rfl (fun w hs => (hsB.at_ hs (fun b hb => (qD (by show g2 ≠ b; omega) (qD (by show g1 ≠ b; omega) qE)))))) ?_
     refine qB (qI rfl rfl rfl) rfl (Gets.bytesEq rfl rfl rfl hB hB2) ?_
     iterate 5 refine gx ?_
     exact qK rfl rfl (fun w hs => ⟨dec_iff (by unfold sameP; simp [*]), ((hs.drop (by assumption)).drop (by assumption))⟩)
    ·refine qB (qI rfl rfl rfl) rfl (qT (qj rfl rfl rfl) q4) ?_
     iterate 14 refine gx ?_
     exact qK rfl rfl (fun w hs => ⟨dec_f (by unfold sameP; simp [*]), ((hs.drop (by assumption)).drop (by assumption))⟩)
   ·refine qB (qI rfl rfl rfl) rfl (qT (qj rfl rfl rfl) q3) ?_
    iterate 21 refine gx ?_
    exact qK rfl rfl (fun w hs => ⟨dec_f (by unfold sameP; simp [*]), ((hs.drop (by assumption)).drop (by assumption))⟩)
  ·refine qB (qI rfl rfl rfl) rfl (qT (qj rfl rfl rfl) q2) ?_
   iterate 28 refine gx ?_
   exact qK rfl rfl (fun w hs => ⟨dec_f (by unfold sameP; simp [*]), ((hs.drop (by assumption)).drop (by assumption))⟩)
 ·refine qB (qA rfl) rfl (qT (qj rfl rfl rfl) q1) ?_
  iterate 34 refine gx ?_
  exact qK rfl rfl (fun w hs => ⟨dec_f (by unfold sameP; simp [*]), ((hs.drop (by assumption)).drop (by assumption))⟩)
/-
 What commands are, without where their data lie; when lists of commands are the same.
-/
def DatC (w : World) (Cs : List CV) : Prop := ∀ (i : Nat) (x : CV), Cs[i]? = some x → Src w x.A x.m .u8 x.B ∧ Bytes x.B
theorem DatC.at_ {w0 w : World} {H : List Ent} {Cs : List CV} (h : DatC w0 Cs) (hs : St w0 H w) (hH : ∀ b, b < w0.heap.size → ∀ e ∈ H, e.g ≠ b) : DatC w Cs := fun i x hx => ⟨(h i x hx).1.at_ hs hH, (h i x hx).2⟩
def valC (x : CV) : Int × Int × Int × Int × List Int := (x.k, x.t, x.f, x.l, x.B)
def sameC (Cs Es : List CV) : Prop := Cs.map valC = Es.map valC
instance (Cs Es : List CV) : Decidable (sameC Cs Es) := by unfold sameC; infer_instance
abbrev sameV (x y : CV) : Prop := sameP x.k x.t x.f x.l y.k y.t y.f y.l x.B y.B
theorem sameV_iff {x y : CV} : sameV x y ↔ valC x = valC y := by unfold sameV sameP valC; simp only [Prod.mk.injEq]
theorem sameC_len {Cs Es : List CV} (h : sameC Cs Es) : Cs.length = Es.length := by have := congrArg List.length h; simpa using this
theorem sameC_at {Cs Es : List CV} (h : sameC Cs Es) {i : Nat} {x y : CV} (hx : Cs[i]? = some x) (hy : Es[i]? = some y) : sameV x y := by
 have h1 := congrArg (·[i]?) h
 simp only [List.getElem?_map, hx, hy, Option.map_some, Option.some.injEq] at h1
 exact sameV_iff.2 h1
theorem sameC_of {Cs Es : List CV} (hl : Cs.length = Es.length) (h : ∀ (i : Nat) (x y : CV), Cs[i]? = some x → Es[i]? = some y → sameV x y) : sameC Cs Es := by
 apply List.ext_getElem?
 intro i
 rw [List.getElem?_map, List.getElem?_map]
 cases hx : Cs[i]? with
 | none =>
  rw [List.getElem?_eq_none_iff] at hx
  rw [List.getElem?_eq_none (by omega)]
 | some x =>
  have hi := (List.getElem?_eq_some_iff.1 hx).1
  have hy : Es[i]? = some Es[i] := List.getElem?_eq_getElem (by omega)
  rw [hy]
  simp only [Option.map_some, Option.some.injEq]
  exact sameV_iff.1 (h i x _ hx hy)
theorem sameC_succ {Cs Es : List CV} {i : Nat} {x y : CV} (h : ∀ (j : Nat) (x y : CV), j < i → Cs[j]? = some x → Es[j]? = some y → sameV x y) (hx : Cs[i]? = some x) (hy : Es[i]? = some y) (hs : sameV x y) : ∀ (j : Nat) (x y : CV), j < i + 1 → Cs[j]? = some x → Es[j]? = some y → sameV x y := fun j x' y' hj hx' hy' => by
 by_cases e : j = i
 ·subst e; rw [hx] at hx'; rw [hy] at hy'; cases hx'; cases hy'; exact hs
 ·exact h j x' y' (by omega) hx' hy'
def sameD (o n : Int) (H1 H2 : List Int) (Cs : List CV) (o2 n2 : Int) (G1 G2 : List Int) (Es : List CV) : Prop := o = o2 ∧ n = n2 ∧ H1 = G1 ∧ H2 = G2 ∧ sameC Cs Es
instance (o n : Int) (H1 H2 : List Int) (Cs : List CV) (o2 n2 : Int) (G1 G2 : List Int) (Es : List CV) : Decidable (sameD o n H1 H2 Cs o2 n2 G1 G2 Es) := by unfold sameD; infer_instance
/-
 Arguments opened: deltas.
-/
set_option maxRecDepth 100000
open Go Go.RowKit Go.ChangeShapes Go.WideShapes Go.ChangeAt Go.Joins Go.Deep
theorem cells_dlt : Tryz.prog.cellsOf 26 = 67 := by kernel_rfl
theorem cells_dig : Tryz.prog.cellsOf 23 = 32 := by kernel_rfl
theorem weights_all {H : Type} {P : Program} {e : TypeId} {d : DataW H} {q : Nat} (h : q ∈ d.weights P e) : ∀ {l : List (DataW H)}, d ∈ l → q ∈ DataW.weightsAll P e l
 | c :: l, hd => by
  unfold DataW.weightsAll
  rcases List.mem_cons.1 hd with rfl | hd
  ·exact List.mem_append.2 (.inl h)
  ·exact List.mem_append.2 (.inr (weights_all h hd))
theorem list5 {α : Type} {l : List α} (h : l.length = 5) : ∃ c0 c1 c2 c3 c4, l = [c0, c1, c2, c3, c4] := by
 match l, h with
 | [c0, c1, c2, c3, c4], _ => exact ⟨c0, c1, c2, c3, c4, rfl⟩
theorem open_cmdF {H : Type} {enc : TypeId × Value → H} {W : World} {fuel : Nat} {cs : List Value} {y : DataW H × List MemPlace} (hf : DataW.trod enc Tryz.prog W 0 (fun _ => true) true fuel 54 cs = some y)
  (hsz : ∀ q ∈ y.1.weights Tryz.prog 54, q ≤ reachBytes) : ∃ x : CV, cs = cellsC x ∧ (-9223372036854775808 ≤ x.k ∧ x.k ≤ 9223372036854775807) ∧ NumC x ∧ Src W x.A x.m .u8 x.B ∧ Bytes x.B := by
 obtain ⟨xs, n, _, hx, hl, hlen, hfs⟩ := DataW.trod_struct Tryz.underlying54 hf
 obtain ⟨c0, c1, c2, c3, c4, rfl⟩ := list5 (hl.trans cells_cmd)
 obtain ⟨y0, y1, y2, y3, y4, rfl⟩ := list5 (show xs.length = 5 from hlen)
 have ci : Tryz.prog.cellsOf 3 = 1 := by kernel_rfl
 have cb : Tryz.prog.cellsOf 22 = 1 := by kernel_rfl
 have g0 : DataW.trod enc Tryz.prog W 0 (fun _ => true) true n 3 [c0] = some y0 := by simpa [Value.cells, ci, cb] using hfs 0 _ rfl
 have g1 : DataW.trod enc Tryz.prog W 0 (fun _ => true) true n 3 [c1] = some y1 := by simpa [Value.cells, ci, cb] using hfs 1 _ rfl
 have g2 : DataW.trod enc Tryz.prog W 0 (fun _ => true) true n 3 [c2] = some y2 := by simpa [Value.cells, ci, cb] using hfs 2 _ rfl
 have g3 : DataW.trod enc Tryz.prog W 0 (fun _ => true) true n 3 [c3] = some y3 := by simpa [Value.cells, ci, cb] using hfs 3 _ rfl
 have g4 : DataW.trod enc Tryz.prog W 0 (fun _ => true) true n 22 [c4] = some y4 := by simpa [Value.cells, ci, cb] using hfs 4 _ rfl
 obtain ⟨k, e0, _, wk⟩ := DataW.trod_int Tryz.underlying3 g0
 obtain ⟨t, e1, _, wt⟩ := DataW.trod_int Tryz.underlying3 g1
 obtain ⟨f, e2, _, wf⟩ := DataW.trod_int Tryz.underlying3 g2
 obtain ⟨l, e3, _, wl⟩ := DataW.trod_int Tryz.underlying3 g3
 obtain ⟨A, m, c, B, e4, hmc, hcm, hs, hB, hw⟩ := open_bytesR Tryz.underlying22 Tryz.underlying5 (by kernel_rfl) g4
 simp at e0 e1 e2 e3
 subst e0 e1 e2 e3 e4
 have hcR : c ≤ 140737488355327 := by
  rcases hw with hw | hw
  ·omega
  ·have := hsz (c * Tryz.prog.bytesOf 5) (by
    rw [hx]
    simp only [List.map_cons, List.map_nil, DataW.weights, Tryz.underlying54, DataW.weightsEach, Array.toList]
    simp only [List.mem_append]
    exact .inr (.inr (.inr (.inr (.inl hw)))))
   rw [bytes_u8] at this
   simp only [reachBytes] at this
   omega
 exact ⟨⟨k, t, f, l, A, m, c, B⟩, rfl, wf_i64b wk, ⟨wf_i64b wt, wf_i64b wf, wf_i64b wl, hmc, Nat.le_trans hmc hcR, Nat.le_trans hcR (by decide)⟩, hs, hB⟩
theorem open_cmds {H : Type} {enc : TypeId × Value → H} {W : World} {fuel : Nat} {v : Value} {y : DataW H × List MemPlace} (hf : DataW.trod enc Tryz.prog W 0 (fun _ => true) true fuel 24 [v] = some y)
  (hsz : ∀ q ∈ y.1.weights Tryz.prog 24, q ≤ reachBytes) : ∃ (A : Option Addr) (m c : Nat) (Cs : List CV), v = .slice A m c ∧ m ≤ c ∧ c ≤ 9223372036854775807 ∧ SrcC W A m Cs ∧ NumsC Cs ∧ DatC W Cs ∧ (A = none → m = 0) := by
 rcases DataW.trod_slice Tryz.underlying24 hf with ⟨hcs, _⟩ | ⟨a, len, cap, elems, rest, n, _, hcs, hx, hb, hl, hm, hlen, hel, _, _⟩
 ·simp at hcs
  subst hcs
  exact ⟨none, 0, 0, [], rfl, Nat.le_refl _, by omega, ⟨rfl, .inl rfl⟩, fun i x h => by simp at h, fun i x h => by simp at h, fun _ => rfl⟩
 ·simp at hcs
  subst hcs
  have each : ∀ i, i < len → ∃ x : CV, (∀ j u, (cellsC x)[j]? = some u → W.cell? ((a.add (i * 5)).add j) = some u) ∧ NumC x ∧ Src W x.A x.m .u8 x.B ∧ Bytes x.B := fun i hi => by
   have hei : elems[i]? = some elems[i] := List.getElem?_eq_getElem (by omega)
   have h1 := hel i hi
   rw [hei, cells_cmd] at h1
   obtain ⟨cs', hc1, hc2⟩ := Option.bind_eq_some_iff.1 h1
   obtain ⟨x, rfl, _, hnx, hsx, hbx⟩ := open_cmdF hc2 (fun q hq => hsz q (by
    rw [hx]
    simp only [DataW.weights, Tryz.underlying24]
    exact List.mem_cons_of_mem _ (List.mem_append.2 (.inl (weights_all hq (List.mem_map.2 ⟨_, List.getElem_mem _, rfl⟩))))))
   obtain ⟨_, _, hat⟩ := World.cells?_some hc1
   exact ⟨x, fun j u hu => by rw [hat j (by have := (List.getElem?_eq_some_iff.1 hu).1; rw [show (cellsC x).length = 5 from rfl] at this; exact this)]; exact hu, hnx, hsx, hbx⟩
  obtain ⟨Cs, hCl, hCs⟩ : ∃ Cs : List CV, Cs.length = len ∧ ∀ (i : Nat) (x : CV), Cs[i]? = some x → (∀ j u, (cellsC x)[j]? = some u → W.cell? ((a.add (i * 5)).add j) = some u) ∧ NumC x ∧ Src W x.A x.m .u8 x.B ∧ Bytes x.B := by
   have hch : ∀ i : Fin len, ∃ x : CV, (∀ j u, (cellsC x)[j]? = some u → W.cell? ((a.add (i.1 * 5)).add j) = some u) ∧ NumC x ∧ Src W x.A x.m .u8 x.B ∧ Bytes x.B := fun i => each i.1 i.2
   refine ⟨List.ofFn fun i => Classical.choose (hch i), by simp, fun i x hx => ?_⟩
   rw [List.getElem?_ofFn] at hx
   split at hx
   ·cases hx
    exact Classical.choose_spec (hch ⟨i, by assumption⟩)
   ·cases hx
  refine ⟨some a, len, cap, Cs, rfl, hl, by unfold maxLen at hm; omega, ⟨hCl, ?_⟩, fun i x hx => (hCs i x hx).2.1, fun i x hx => (hCs i x hx).2.2, fun h => by cases h⟩
  by_cases h0 : len = 0
  ·exact .inl h0
  ·right
   obtain ⟨b, off, spot⟩ := a
   have hx0 : Cs[0]? = some Cs[0] := List.getElem?_eq_getElem (by omega)
   have hc0 := (hCs 0 _ hx0).1 0 _ rfl
   have hspot : spot = none := by
    have := World.cell?_spot hc0
    simpa [Addr.add] using this
   subst hspot
   refine ⟨b, off, rfl, World.block_lt_of_cell? W _ hc0, fun i x hx j u hu => ?_⟩
   have := (hCs i x hx).1 j u hu
   rw [addr_add, addr_add] at this
   rw [show off + 5 * i + j = off + i * 5 + j by omega]; exact this
theorem open_dig {H : Type} {enc : TypeId × Value → H} {W : World} {fuel : Nat} {cs : List Value} {y : DataW H × List MemPlace} (hf : DataW.trod enc Tryz.prog W 0 (fun _ => true) true fuel 23 cs = some y) : ∃ B : List Int, cs = B.map (int .u8) ∧ B.length = 32 ∧ Bytes B := by
 obtain ⟨xs, n, _, hx, hl, hlen, hfs⟩ := DataW.trod_array Tryz.underlying23 hf
 have hl32 : cs.length = 32 := hl.trans cells_dig
 have cu : Tryz.prog.cellsOf 5 = 1 := by kernel_rfl
 have each : ∀ i, i < 32 → ∃ b : Int, cs[i]? = some (.int .u8 b) ∧ 0 ≤ b ∧ b ≤ 255 := fun i hi => by
  have h1 := hfs i hi
  have hxi : xs[i]? = some xs[i] := List.getElem?_eq_getElem (by omega)
  rw [cu, Nat.mul_one, hxi] at h1
  have h4 : (cs.drop i).take 1 = [cs[i]] := by
   rw [List.drop_eq_getElem_cons (by omega)]; rfl
  rw [h4] at h1
  obtain ⟨b, e1, _, wb⟩ := DataW.trod_int Tryz.underlying5 h1
  simp at e1
  exact ⟨b, by rw [List.getElem?_eq_getElem (by omega), e1], wf_u8b wb⟩
 have hch : ∀ i : Fin 32, ∃ b : Int, cs[i.1]? = some (.int .u8 b) ∧ 0 ≤ b ∧ b ≤ 255 := fun i => each i.1 i.2
 refine ⟨List.ofFn fun i => Classical.choose (hch i), ?_, by simp, fun b hb => ?_⟩
 ·apply List.ext_getElem?
  intro i
  by_cases hi : i < 32
  ·rw [(Classical.choose_spec (hch ⟨i, hi⟩)).1]
   rw [List.getElem?_map, List.getElem?_ofFn, dif_pos hi]; rfl
  ·rw [List.getElem?_eq_none (by omega), List.getElem?_eq_none (by simp; omega)]
 ·obtain ⟨i, rfl⟩ := List.mem_ofFn.1 hb
  exact (Classical.choose_spec (hch i)).2
theorem drop_cut {α : Type} (l : List α) (a n : Nat) : l.drop a = (l.drop a).take n ++ l.drop (a + n) := by
 rw [← List.drop_drop, List.take_append_drop]
theorem open_dlt {H : Type} {enc : TypeId × Value → H} {W : World} {base : Nat} {v : Value} {d : DataW H} {ps : List MemPlace} (hv : Value.okWide Tryz.prog W .any base 26 v)
  (h : DataW.Trod enc Tryz.prog W 0 (fun _ => true) true 26 v d ps) (hsz : ∀ q ∈ d.weights Tryz.prog 26, q ≤ reachBytes) :
  ∃ (o n : Int) (H1 H2 : List Int) (A : Option Addr) (m c : Nat) (Cs : List CV), v = .agg ([int .i64 o, int .i64 n] ++ (H1.map (int .u8) ++ (H2.map (int .u8) ++ [slice A m c]))).toArray ∧ (-9223372036854775808 ≤ o ∧ o ≤ 9223372036854775807) ∧ (-9223372036854775808 ≤ n ∧ n ≤ 9223372036854775807) ∧
   H1.length = 32 ∧ H2.length = 32 ∧ Bytes H1 ∧ Bytes H2 ∧ m ≤ c ∧ c ≤ 9223372036854775807 ∧ SrcC W A m Cs ∧ NumsC Cs ∧ DatC W Cs ∧ (A = none → m = 0) := by
 obtain ⟨cs, rfl, hcz⟩ := okWide_struct Tryz.underlying26 hv
 obtain ⟨fuel, hf⟩ := h
 obtain ⟨xs, n, _, hx, hl, hlen, hfs⟩ := DataW.trod_struct Tryz.underlying26 hf
 obtain ⟨l⟩ := cs
 have hcells : (Value.agg ⟨l⟩).cells.toList = l := rfl
 rw [hcells] at hl hfs
 have hl67 : l.length = 67 := hl.trans cells_dlt
 obtain ⟨y0, y1, y2, y3, y4, rfl⟩ := list5 (show xs.length = 5 from hlen)
 have ci : Tryz.prog.cellsOf 3 = 1 := by kernel_rfl
 have cb : Tryz.prog.cellsOf 24 = 1 := by kernel_rfl
 have g0 : DataW.trod enc Tryz.prog W 0 (fun _ => true) true n 3 ((l.drop 0).take 1) = some y0 := by have t0 : DataW.trod enc Tryz.prog W 0 (fun _ => true) true n 3 ((l.drop 0).take (Tryz.prog.cellsOf 3)) = some y0 := hfs 0 _ rfl; rw [ci] at t0; exact t0
 have g1 : DataW.trod enc Tryz.prog W 0 (fun _ => true) true n 3 ((l.drop 1).take 1) = some y1 := by have t0 : DataW.trod enc Tryz.prog W 0 (fun _ => true) true n 3 ((l.drop 1).take (Tryz.prog.cellsOf 3)) = some y1 := hfs 1 _ rfl; rw [ci] at t0; exact t0
 have g2 : DataW.trod enc Tryz.prog W 0 (fun _ => true) true n 23 ((l.drop 2).take 32) = some y2 := by have t0 : DataW.trod enc Tryz.prog W 0 (fun _ => true) true n 23 ((l.drop 2).take (Tryz.prog.cellsOf 23)) = some y2 := hfs 2 _ rfl; rw [cells_dig] at t0; exact t0
 have g3 : DataW.trod enc Tryz.prog W 0 (fun _ => true) true n 23 ((l.drop 34).take 32) = some y3 := by have t0 : DataW.trod enc Tryz.prog W 0 (fun _ => true) true n 23 ((l.drop 34).take (Tryz.prog.cellsOf 23)) = some y3 := hfs 3 _ rfl; rw [cells_dig] at t0; exact t0
 have g4 : DataW.trod enc Tryz.prog W 0 (fun _ => true) true n 24 ((l.drop 66).take 1) = some y4 := by have t0 : DataW.trod enc Tryz.prog W 0 (fun _ => true) true n 24 ((l.drop 66).take (Tryz.prog.cellsOf 24)) = some y4 := hfs 4 _ rfl; rw [cb] at t0; exact t0
 obtain ⟨o, e0, _, wo⟩ := DataW.trod_int Tryz.underlying3 g0
 obtain ⟨nn, e1, _, wn⟩ := DataW.trod_int Tryz.underlying3 g1
 obtain ⟨H1, e2, hH1, b1⟩ := open_dig g2
 obtain ⟨H2, e3, hH2, b2⟩ := open_dig g3
 obtain ⟨u, e4⟩ : ∃ u, (l.drop 66).take 1 = [u] := List.length_eq_one_iff.1 (by rw [List.length_take, List.length_drop, hl67]; rfl)
 rw [e4] at g4
 simp only [Prod.mk.injEq] at hx
 obtain ⟨A, m, c, Cs, rfl, hmc, hcm, hC, hN, hD, hA⟩ := open_cmds g4 (fun q hq => hsz q (by
  rw [hx.1]
  simp only [List.map_cons, List.map_nil, DataW.weights, Tryz.underlying26, DataW.weightsEach, Array.toList]
  simp only [List.mem_append]
  exact .inr (.inr (.inr (.inr (.inl hq))))))
 refine ⟨o, nn, H1, H2, A, m, c, Cs, ?_, wf_i64b wo, wf_i64b wn, hH1, hH2, b1, b2, hmc, hcm, hC, hN, hD, hA⟩
 congr 1
 have h5 : l = [int .i64 o, int .i64 nn] ++ (H1.map (int .u8) ++ (H2.map (int .u8) ++ [.slice A m c])) := by
  have k0 := drop_cut l 0 1
  have k1 := drop_cut l 1 1
  have k2 := drop_cut l 2 32
  have k3 := drop_cut l 34 32
  have k4 := drop_cut l 66 1
  rw [e0] at k0
  rw [e1] at k1
  rw [e2] at k2
  rw [e3] at k3
  rw [e4, List.drop_of_length_le (i := 66 + 1) (by omega), List.append_nil] at k4
  have k0' : l = [int .i64 o] ++ l.drop 1 := by simpa using k0
  rw [k0', k1, k2, k3, k4]
  simp
 rw [h5]
/-
 A range over a function whose iterator keeps state of its own in cells: the iterator's contract, and one law for the statement.
-/
structure Beside (lo hi : Nat) (A B : World) : Prop where
 os : B.os = A.os
 tape : B.tape = A.tape
 output : B.output = A.output
 size : A.heap.size ≤ B.heap.size
 block : ∀ k, k < A.heap.size → ¬ (lo ≤ k ∧ k < hi) → B.heap[k]? = A.heap[k]?
theorem Beside.mono {lo hi lo' hi' : Nat} {A B : World} (h : Beside lo hi A B) (h1 : lo' ≤ lo) (h2 : hi ≤ hi') : Beside lo' hi' A B :=
 ⟨h.os, h.tape, h.output, h.size, fun k hk hn => h.block k hk (fun hc => hn ⟨Nat.le_trans h1 hc.1, Nat.lt_of_lt_of_le hc.2 h2⟩)⟩
theorem Beside.alloc (lo hi : Nat) (A : World) (o : Obj) : Beside lo hi A (A.alloc o) := ⟨rfl, rfl, rfl, by simp, fun k hk _ => Below.heap_alloc A o k hk⟩
theorem Beside.putObj {lo hi : Nat} (A : World) (r : Nat) (o : Obj) (h1 : lo ≤ r) (h2 : r < hi) : Beside lo hi A (A.putObj r o) :=
 ⟨rfl, rfl, rfl, by simp, fun k _ hn => World.putObj_heap_other (fun e => hn (by rw [e]; exact ⟨h1, h2⟩))⟩
theorem Beside.of_below {lo hi : Nat} {A B : World} (h : Below A.heap.size A B) : Beside lo hi A B := ⟨h.os, h.tape, h.output, h.size, fun k hk _ => h.block k hk⟩
structure Keeps (Ks : Nat → Prop) (A B : World) : Prop where
 size : A.heap.size ≤ B.heap.size
 block : ∀ k, Ks k → k < A.heap.size → B.heap[k]? = A.heap[k]?
theorem Keeps.trans {Ks : Nat → Prop} {A B C : World} (h : Keeps Ks A B) (k : Keeps Ks B C) : Keeps Ks A C :=
 ⟨Nat.le_trans h.size k.size, fun i hi hl => (k.block i hi (Nat.lt_of_lt_of_le hl h.size)).trans (h.block i hi hl)⟩
theorem Keeps.mono {Ks Ks' : Nat → Prop} {A B : World} (h : Keeps Ks A B) (hs : ∀ k, Ks' k → Ks k) : Keeps Ks' A B := ⟨h.size, fun k hk => h.block k (hs k hk)⟩
theorem Keeps.putObj {Ks : Nat → Prop} (A : World) (r : Nat) (o : Obj) (h : ¬ Ks r) : Keeps Ks A (A.putObj r o) :=
 ⟨by simp, fun k hk _ => World.putObj_heap_other (fun e => h (by rw [← e]; exact hk))⟩
theorem Keeps.below {Ks : Nat → Prop} {A B : World} (h : Below A.heap.size A B) : Keeps Ks A B := ⟨h.size, fun k _ hl => h.block k hl⟩
def Holds (Ks : Nat → Prop) (A B : World) : Prop := ∀ k, Ks k → k < A.heap.size → B.heap[k]? = A.heap[k]?
theorem Holds.lt {Ks : Nat → Prop} {A B : World} (h : Holds Ks A B) {k : Nat} (hk : Ks k) (hl : k < A.heap.size) : k < B.heap.size := by
 have h1 := h k hk hl
 rw [Array.getElem?_eq_getElem hl] at h1
 exact (Array.getElem?_eq_some_iff.1 h1).1
theorem Holds.trans {Ks : Nat → Prop} {A B C : World} (h : Holds Ks A B) (k : Holds Ks B C) : Holds Ks A C := fun i hi hl => (k i hi (h.lt hi hl)).trans (h i hi hl)
theorem Holds.mono {Ks Ks' : Nat → Prop} {A B : World} (h : Holds Ks A B) (hs : ∀ k, Ks' k → Ks k) : Holds Ks' A B := fun k hk => h k (hs k hk)
theorem Keeps.holds {Ks : Nat → Prop} {A B : World} (h : Keeps Ks A B) : Holds Ks A B := h.block
theorem Holds.putObj {Ks : Nat → Prop} (A : World) (r : Nat) (o : Obj) (h : ¬ Ks r) : Holds Ks A (A.putObj r o) := (Keeps.putObj A r o h).holds
def IterC (F : Fence) (n : Nat) (P : Program) (g : Nat) (lb : Array Value) (encs : Nat → Array Value) (N c : Nat) (Cap : Nat → Prop) (w0 : World) : Prop :=
 ∀ (l : Nat) (J Jx : Nat → World → Prop) (W : World), Below w0.heap.size w0 W →
  (∀ s A B, J s A → Beside W.heap.size (W.heap.size + c) A B → J s B) →
  (∀ s A B, Jx s A → Beside W.heap.size (W.heap.size + c) A B → Jx s B) →
  (∀ i W1, i < N → J i W1 → W.heap.size + c ≤ W1.heap.size → YieldAt F (n - 1) P l (encs i) W1 fun e W' =>
   (e = .returned (.bool true) ∧ J (i + 1) W' ∧ Holds (fun k => (W.heap.size ≤ k ∧ k < W.heap.size + c) ∨ Cap k) W1 W' ∧ W.heap.size + c ≤ W'.heap.size) ∨ (e = .returned (.bool false) ∧ Jx (i + 1) W')) →
  J 0 W →
  CallsIn F n P g (#[.func (.yield l) #[] #[]] ++ lb) W fun e W' => (∃ v, e = .returned v) ∧ (J N W' ∨ ∃ i, i < N ∧ Jx (i + 1) W')
def itPost (sz : Nat) (Ks : Nat → Prop) (I : Nat → World → Prop) (Ix : Code → Nat → World → Prop) (i : Nat) (W : World) : Exit → Act → World → Prop
 | .normal, _, W' => Holds Ks W W' ∧ sz ≤ W'.heap.size ∧ I i W'
 | .ret, _, W' => Holds Ks W W' ∧ sz ≤ W'.heap.size ∧ Ix .ret i W'
 | .exit id, _, W' => Holds Ks W W' ∧ sz ≤ W'.heap.size ∧ Ix (.exit id) i W'
 | .goto t, _, W' => Holds Ks W W' ∧ sz ≤ W'.heap.size ∧ Ix (.goto t) i W'
 | .panic _, _, _ => False
 | .outgrown, _, _ => False
variable {F : Fence} {n : Nat} {P : Program}
theorem wpIn_rangeFunc_it {g : Operand} {ps : Array Tmp} {assign body : Code} {Q : Exit → Act → World → Prop} {a : Act} {w : World}
  (hro : F.round = none) (h1 : 1 ≤ n) {gf : Nat} {lb : Array Value} (hg : a.eval g = .func (.func gf) #[] lb) (hFg : F.fn gf) (eg : ∀ args w, (callFunc gf args).run P w = .ok (.enter gf args) w)
  {encs : Nat → Array Value} {N c : Nat} {Cap : Nat → Prop} {w0 : World} (hseq : IterC F (n - 1) P gf lb encs N c Cap w0)
  (hb0 : Below w0.heap.size w0 w) (hcap : ∀ k, Cap k → k < w.heap.size) (hps : ∀ i, (encs i).size = ps.size)
  (I : Nat → World → Prop) (Ix : Code → Nat → World → Prop) (Ax : Nat → Act → World → Prop)
  (hI : ∀ s A B, I s A → Beside w.heap.size (w.heap.size + 2 + c) A B → I s B)
  (hIx : ∀ j s A B, Ix j s A → Beside w.heap.size (w.heap.size + 2 + c) A B → Ix j s B)
  (hAx : ∀ s a A B, Ax s a A → Beside w.heap.size (w.heap.size + 2 + c) A B → Ax s a B)
  (h0 : I 0 w)
  (hassign : ∀ (l i : Nat) (W : World), i < N → I i W → w.heap.size + 2 + c ≤ W.heap.size → assign.wpIn (F.inRound l) (n - 1 - 1) P
   (Exit.then (fun a₁ W₁ => Ax i a₁ W₁ ∧ Keeps (fun k => (w.heap.size ≤ k ∧ k < w.heap.size + 2 + c) ∨ Cap k) W W₁) (fun _ _ _ => False))
   { tmps := (ps.zip (encs i)).foldl (fun t (p, v) => t.setIfInBounds p v) a.tmps, defers := [] } W)
  (hbody : ∀ (l i : Nat) (a₁ : Act) (W : World), i < N → Ax i a₁ W → w.heap.size + 2 + c ≤ W.heap.size →
   body.wpIn (F.inRound l) (n - 1 - 1) P (itPost (w.heap.size + 2 + c) (fun k => (w.heap.size ≤ k ∧ k < w.heap.size + 2 + c) ∨ Cap k) I Ix (i + 1) W) a₁ W)
  (hdone : ∀ (W : World), I N W → W.heap[w.heap.size]? = some (.deferred (some [])) → Q .normal { a with defers := { target := .collected w.heap.size, args := #[] } :: a.defers } W)
  (hstop : ∀ (j : Code) (i : Nat) (W : World), i < N → Ix j (i + 1) W → W.heap[w.heap.size]? = some (.deferred (some [])) → j.wpIn F n P Q { a with defers := { target := .collected w.heap.size, args := #[] } :: a.defers } W) :
  (Code.rangeFunc g ps assign body).wpIn F n P Q a w := by
 refine wpIn_rangeFunc ?_
 intro fn hfn
 rw [hro]
 obtain ⟨rec, hrec⟩ : ∃ rec : LoopState → Option Code → Loop, rec = fun st pe => { state := st, pending := pe, fn, tmps := a.tmps, params := ps, assign, body, defers := w.heap.size } := ⟨_, rfl⟩
 obtain ⟨W1, hW1⟩ : ∃ W1, (w.alloc (.deferred (some []))).alloc (.loop (rec .ready none)) = W1 := ⟨_, rfl⟩
 have hsz : W1.heap.size = w.heap.size + 2 := by rw [← hW1]; simp
 have hL1 : W1.heap[w.heap.size + 1]? = some (.loop (rec .ready none)) := by
  rw [← hW1]; have := World.alloc_heap_new (w.alloc (.deferred (some []))) (.loop (rec .ready none)); rwa [World.size_alloc] at this
 have hK1 : W1.heap[w.heap.size]? = some (.deferred (some [])) := by
  rw [← hW1]; exact (Below.heap_alloc _ _ _ (by simp)).trans (World.alloc_heap_new w _)
 have hI1 : I 0 W1 := by rw [← hW1]; exact hI _ _ _ (hI _ _ _ h0 (Beside.alloc _ _ _ _)) (Beside.alloc _ _ _ _)
 have hb1 : Below w0.heap.size w0 W1 := by
  rw [← hW1]; exact hb0.trans ((((Below.refl _ w).alloc (Nat.le_refl _) _).alloc (by simp) _).mono hb0.size)
 refine ⟨w.heap.size + 1, [{ target := .collected w.heap.size, args := #[] }], W1, { target := .fn (.func gf) lb, args := #[.func (.yield (w.heap.size + 1)) #[] #[]] }, W1, gf,
  #[.func (.yield (w.heap.size + 1)) #[] #[]] ++ lb, W1, ?_, ?_, ?_, ?_, fun _ => h1, ?_⟩
 ·rw [← hW1, hrec]; exact run_enterLoop_outer _ _ _ _ _
 ·simp only [resolve, hg]
  simp [go_sem]
 ·intro f' hf'; simp [Target.leads] at hf'; subst hf'; exact hFg
 ·simp [invoke, go_sem, eg]
 ·have inM : ∀ {A B : World}, Beside W1.heap.size (W1.heap.size + c) A B → Beside w.heap.size (w.heap.size + 2 + c) A B := fun h => h.mono (by omega) (by omega)
  refine (hseq (w.heap.size + 1)
   (fun i W => I i W ∧ W.heap[w.heap.size + 1]? = some (.loop (rec .ready none)) ∧ W.heap[w.heap.size]? = some (.deferred (some [])))
   (fun i W => ∃ j, Ix j i W ∧ W.heap[w.heap.size + 1]? = some (.loop (rec .done (some j))) ∧ W.heap[w.heap.size]? = some (.deferred (some [])))
   W1 hb1
   (fun s A B hs hg' => by
    have l1 := (Array.getElem?_eq_some_iff.1 hs.2.1).1
    exact ⟨hI s A B hs.1 (inM hg'), (hg'.block _ l1 (by omega)).trans hs.2.1, (hg'.block _ (by omega) (by omega)).trans hs.2.2⟩)
   (fun s A B hs hg' => by
    obtain ⟨j, hj, hl, hk⟩ := hs
    have l1 := (Array.getElem?_eq_some_iff.1 hl).1
    exact ⟨j, hIx j s A B hj (inM hg'), (hg'.block _ l1 (by omega)).trans hl, (hg'.block _ (by omega) (by omega)).trans hk⟩)
   ?_ ⟨hI1, hL1, hK1⟩).mono ?_
  ·-- one round
   rintro i W hiN ⟨hi, hl, hk⟩ hWs
   have hlt : w.heap.size + 1 < W.heap.size := (Array.getElem?_eq_some_iff.1 hl).1
   have hy := run_yield (P := P) (args := encs i) hl (by rw [hrec]; exact hps i)
   rw [hrec] at hy
   refine ⟨fn, _, assign, body, hy, roundIn_of_wpIn hfn (wpIn_mono (hassign (w.heap.size + 1) i W hiN hi (by omega)) ?_)⟩
   intro e1 a1 W2 hp1
   cases e1 with
   | normal =>
    obtain ⟨hax, hkp⟩ := hp1
    have hl2 : W2.heap[w.heap.size + 1]? = some (.loop (rec .ready none)) := (hkp.block _ (.inl ⟨by omega, by omega⟩) hlt).trans hl
    have hk2 : W2.heap[w.heap.size]? = some (.deferred (some [])) := (hkp.block _ (.inl ⟨by omega, by omega⟩) (by omega)).trans hk
    have hlt2 : w.heap.size + 1 < W2.heap.size := (Array.getElem?_eq_some_iff.1 hl2).1
    refine ⟨_, run_beginRound hl2 (by rw [hrec]), ?_⟩
    obtain ⟨W3, hW3⟩ : ∃ W3, W2.putObj (w.heap.size + 1) (.loop { rec .ready none with state := .busy }) = W3 := ⟨_, rfl⟩
    rw [hW3]
    have hl3 : W3.heap[w.heap.size + 1]? = some (.loop { rec .ready none with state := .busy }) := by rw [← hW3]; exact World.putObj_heap_same hlt2
    have hk3 : W3.heap[w.heap.size]? = some (.deferred (some [])) := by rw [← hW3]; exact (World.putObj_heap_other (by omega)).trans hk2
    have hax3 : Ax i a1 W3 := by rw [← hW3]; exact hAx _ _ _ _ hax (Beside.putObj _ _ _ (by omega) (by omega))
    have hs3 : W3.heap.size = W2.heap.size := by rw [← hW3]; simp
    have hke3 : Keeps (fun k => (W1.heap.size ≤ k ∧ k < W1.heap.size + c) ∨ Cap k) W W3 := by
     have hput : Keeps (fun k => (W1.heap.size ≤ k ∧ k < W1.heap.size + c) ∨ Cap k) W2 W3 := by
      rw [← hW3]
      refine Keeps.putObj _ _ _ ?_
      rintro (hk | hk)
      ·omega
      ·have := hcap _ hk; omega
     refine (hkp.mono ?_).trans hput
     rintro k (hk | hk)
     ·exact .inl ⟨by omega, by omega⟩
     ·exact .inr hk
    refine wpIn_mono (hbody _ i a1 W3 hiN hax3 (by have := hkp.size; omega)) ?_
    have fin : ∀ (jump : Option Code) (W4 : World), Holds (fun k => (w.heap.size ≤ k ∧ k < w.heap.size + 2 + c) ∨ Cap k) W3 W4 →
      (Instr.endRound (w.heap.size + 1) jump).run P W4 = .ok (.bool jump.isNone) (W4.putObj (w.heap.size + 1) (.loop (rec (if jump.isNone then .ready else .done) jump))) ∧
      W4.heap.size ≤ (W4.putObj (w.heap.size + 1) (.loop (rec (if jump.isNone then .ready else .done) jump))).heap.size ∧
      (W4.putObj (w.heap.size + 1) (.loop (rec (if jump.isNone then .ready else .done) jump))).heap[w.heap.size + 1]? = some (.loop (rec (if jump.isNone then .ready else .done) jump)) ∧
      (W4.putObj (w.heap.size + 1) (.loop (rec (if jump.isNone then .ready else .done) jump))).heap[w.heap.size]? = some (.deferred (some [])) := fun jump W4 hk4 => by
     have hl4 : W4.heap[w.heap.size + 1]? = some (.loop { rec .ready none with state := .busy }) := (hk4 _ (.inl ⟨by omega, by omega⟩) (by omega)).trans hl3
     have := run_endRound (P := P) jump hl4
     rw [hrec] at this ⊢
     exact ⟨this, by simp, World.putObj_heap_same (Array.getElem?_eq_some_iff.1 hl4).1, (World.putObj_heap_other (by omega)).trans ((hk4 _ (.inl ⟨by omega, by omega⟩) (by omega)).trans hk3)⟩
    rintro e a3 W4 hp
    cases e with
    | normal =>
     obtain ⟨hk4, hz4, hi4⟩ := hp
     obtain ⟨hr, _, hl5, hk5⟩ := fin none W4 hk4
     refine ⟨_, _, hr, .inl ⟨rfl, ⟨hI _ _ _ hi4 (Beside.putObj _ _ _ (by omega) (by omega)), hl5, hk5⟩, (hke3.holds.trans (hk4.mono ?_)).trans (Holds.putObj _ _ _ ?_), ?_⟩⟩
     ·rintro k (hk | hk)
      ·exact .inl ⟨by omega, by omega⟩
      ·exact .inr hk
     ·rintro (hk | hk)
      ·omega
      ·have := hcap _ hk; omega
     ·rw [hsz]
      refine Nat.le_trans hz4 (Nat.le_of_eq ?_)
      simp
    | ret =>
     obtain ⟨hk4, hz4, hi4⟩ := hp
     obtain ⟨hr, _, hl5, hk5⟩ := fin (some .ret) W4 hk4
     exact ⟨_, _, hr, .inr ⟨rfl, ⟨.ret, hIx _ _ _ _ hi4 (Beside.putObj _ _ _ (by omega) (by omega)), hl5, hk5⟩⟩⟩
    | exit id =>
     obtain ⟨hk4, hz4, hi4⟩ := hp
     obtain ⟨hr, _, hl5, hk5⟩ := fin (some (.exit id)) W4 hk4
     exact ⟨_, _, hr, .inr ⟨rfl, ⟨.exit id, hIx _ _ _ _ hi4 (Beside.putObj _ _ _ (by omega) (by omega)), hl5, hk5⟩⟩⟩
    | goto t =>
     obtain ⟨hk4, hz4, hi4⟩ := hp
     obtain ⟨hr, _, hl5, hk5⟩ := fin (some (.goto t)) W4 hk4
     exact ⟨_, _, hr, .inr ⟨rfl, ⟨.goto t, hIx _ _ _ _ hi4 (Beside.putObj _ _ _ (by omega) (by omega)), hl5, hk5⟩⟩⟩
    | panic ch => exact hp.elim
    | outgrown => exact hp.elim
   | _ => exact hp1.elim
  ·-- behind the iterator
   rintro e W2 ⟨⟨v, rfl⟩, (⟨hi, hl, hk⟩ | ⟨i, hiN, j, hj, hl, hk⟩)⟩
   ·exact ⟨none, _, by have := run_endLoop (P := P) hl (by rw [hrec]; simp); rw [hrec] at this; exact this, hdone _ (hI _ _ _ hi (Beside.putObj _ _ _ (by omega) (by omega))) ((World.putObj_heap_other (by omega)).trans hk)⟩
   ·exact ⟨some j, _, by have := run_endLoop (P := P) hl (by rw [hrec]; simp); rw [hrec] at this; exact this, hstop j i _ hiN (hIx _ _ _ _ hj (Beside.putObj _ _ _ (by omega) (by omega))) ((World.putObj_heap_other (by omega)).trans hk)⟩
/-
 Ranges over functions, and iterators, in the engine's terms.
-/
section
variable {P : Program} {ops : Array Oper} {Q : Exit → Act → World → Prop} {n : Sz} {w0 v W w : World} {L L' : List (Nat × Value)} {H A B HC X : List Ent} {o : Oper} {rest : List Oper} {ex : Exit}
theorem St.self (h : St w0 H w) : St w H w := ⟨rfl, rfl, rfl, Nat.le_refl _, h.has, fun _ _ _ => rfl, h.apart⟩
theorem St.self1 (h : St w0 (A ++ B) w) : St w A w := ⟨rfl, rfl, rfl, Nat.le_refl _, fun e he => h.has e (List.mem_append.2 (.inl he)), fun _ _ _ => rfl, (List.pairwise_append.1 h.apart).1⟩
theorem St.over (h : St w0 (A ++ HC) v) (k : St v B w) (h1 : ∀ e ∈ B, ∀ d ∈ HC, e.g ≠ d.g) (h2 : ∀ d ∈ A, w0.heap.size ≤ d.g ∨ ∃ e ∈ B, e.g = d.g) : St w0 (B ++ HC) w := by
 refine ⟨k.os.trans h.os, k.tape.trans h.tape, k.output.trans h.output, Nat.le_trans h.size k.size, ?_, ?_, ?_⟩
 ·intro e he
  rcases List.mem_append.1 he with he | he
  ·exact k.has e he
  ·have hl := h.has e (List.mem_append.2 (.inr he))
   exact hl.of_block (k.old _ hl.lt (fun d hd => h1 d hd e he))
 ·intro b hb hneb
  have hbv := Nat.lt_of_lt_of_le hb h.size
  refine (k.old b hbv (fun e he => hneb e (List.mem_append.2 (.inl he)))).trans (h.old b hb ?_)
  intro d hd
  rcases List.mem_append.1 hd with hd | hd
  ·rcases h2 d hd with h2 | ⟨e, he, heg⟩
   ·omega
   ·rw [← heg]; exact hneb e (List.mem_append.2 (.inl he))
  ·exact hneb d (List.mem_append.2 (.inr hd))
 ·rw [List.pairwise_append]
  exact ⟨k.apart, (List.pairwise_append.1 h.apart).2.1, fun e he d hd => h1 e he d hd⟩
theorem St.dropAll : ∀ (X : List Ent), St w0 (X ++ H) w → (∀ e ∈ X, w0.heap.size ≤ e.g) → St w0 H w
 | [], h, _ => h
 | e :: X, h, hx => St.dropAll X (h.drop (hx e List.mem_cons_self)) fun d hd => hx d (List.mem_cons_of_mem _ hd)
abbrev zJ := @St.dropAll
theorem St.besides {lo hi : Nat} (h : St w0 H v) (hb : Beside lo hi v w) (h1 : ∀ e ∈ H, e.g < lo ∨ hi ≤ e.g) (h2 : w0.heap.size ≤ lo) : St w0 H w :=
 ⟨hb.os.trans h.os, hb.tape.trans h.tape, hb.output.trans h.output, Nat.le_trans h.size hb.size,
  fun e he => (h.has e he).of_block (hb.block _ (h.has e he).lt (fun hc => by have := h1 e he; omega)),
  fun b hlt hne => (hb.block b (Nat.lt_of_lt_of_le hlt h.size) (fun hc => by omega)).trans (h.old b hlt hne), h.apart⟩
theorem gs_mem {Hi H0 : List Ent} (hgs : Hi.map (·.g) = H0.map (·.g)) : ∀ e ∈ Hi, ∃ d ∈ H0, d.g = e.g := fun e he => by
 have : e.g ∈ H0.map (·.g) := by rw [← hgs]; exact List.mem_map_of_mem he
 obtain ⟨d, hd, h⟩ := List.mem_map.1 this
 exact ⟨d, hd, h⟩
theorem wpIn_num {F : Fence} (hF : F.depth = none) {m m' : Nat} {c : Code} {a : Act} (h : c.wpIn F m P Q a w) : c.wpIn F m' P Q a w := fun b k cs h1 h2 _ =>
 h b k cs h1 h2 (fun d hd => by rw [hF] at hd; cases hd)
def mark (D : Nat) : Deferred := { target := .collected D, args := #[] }
def AxP (v : World) (La : Nat → List (Nat × Value)) (Ha : Nat → List Ent) (Hi : List Ent) (n : Sz) : Act → World → Prop := fun a W => ∃ y, v.heap.size ≤ y ∧ y ≤ W.heap.size ∧ Fr n (La y) a ∧ St v (Ha y ++ Hi) W
def RoundQ (y : Nat) (v : World) (C1 : Prop) (H1 : List Ent) (Cr : Prop) (Hr : List Ent) (idb : Nat) (Cb : Prop) (Hb : List Ent) : Exit → Act → World → Prop
 | .normal, _, W => C1 ∧ ∃ X, (∀ e ∈ X, y ≤ e.g) ∧ St v (X ++ H1) W
 | .ret, _, W => Cr ∧ ∃ X, (∀ e ∈ X, y ≤ e.g) ∧ St v (X ++ Hr) W
 | .exit id, _, W => id = idb ∧ Cb ∧ ∃ X, (∀ e ∈ X, y ≤ e.g) ∧ St v (X ++ Hb) W
 | _, _, _ => False
structure MarkAt (w0 W : World) (D : Nat) (gs : List Nat) : Prop where
 new : w0.heap.size ≤ D
 here : W.heap[D]? = some (.deferred (some []))
 ne : ∀ x ∈ gs, x ≠ D
theorem TE.ax {La : Nat → List (Nat × Value)} {Ha : Nat → List Ent} {Hi : List Ent} (y : Nat) (hy : v.heap.size ≤ y) (hy2 : ∀ w, St v H w → y ≤ w.heap.size) (hs : Sub (La y) L) (hH : ∀ w, St v H w → St v (Ha y ++ Hi) w) :
  TE (Exit.then (AxP v La Ha Hi n) (fun _ _ _ => False)) .normal n v L H := fun a w hf hst => ⟨y, hy, hy2 w hst, hf.sub hs, hH w hst⟩
theorem TE.roundN {y : Nat} {C1 Cr Cb : Prop} {H1 Hr Hb : List Ent} {idb : Nat} (hC : C1) (X : List Ent) (hX : ∀ e ∈ X, y ≤ e.g) (hH : ∀ w, St v H w → St v (X ++ H1) w) : TE (RoundQ y v C1 H1 Cr Hr idb Cb Hb) .normal n v L H := fun a w _ hs => ⟨hC, X, hX, hH w hs⟩
theorem TE.roundR {y : Nat} {C1 Cr Cb : Prop} {H1 Hr Hb : List Ent} {idb : Nat} (hC : Cr) (X : List Ent) (hX : ∀ e ∈ X, y ≤ e.g) (hH : ∀ w, St v H w → St v (X ++ Hr) w) : TE (RoundQ y v C1 H1 Cr Hr idb Cb Hb) .ret n v L H := fun a w _ hs => ⟨hC, X, hX, hH w hs⟩
theorem TE.roundB {y : Nat} {C1 Cr Cb : Prop} {H1 Hr Hb : List Ent} {idb : Nat} (hC : Cb) (X : List Ent) (hX : ∀ e ∈ X, y ≤ e.g) (hH : ∀ w, St v H w → St v (X ++ Hb) w) : TE (RoundQ y v C1 H1 Cr Hr idb Cb Hb) (.exit idb) n v L H := fun a w _ hs => ⟨rfl, hC, X, hX, hH w hs⟩
theorem TC.range {g : Operand} {p : Tmp} {assign body : Code} {gf : FuncId} {lb : List Value} {V : Nat → Value} {N c : Nat} {Cap : Nat → Prop}
  (hmd : n.md = .plain) (hds : n.ds = []) (hp : inside n (some p) = true) (hg : ev L g = some (.func (.func gf) #[] lb.toArray)) (hent : Enters P gf)
  (hit : ∀ w, St w0 H w → IterC Fence.wide 2 P gf lb.toArray (fun i => #[V i]) N c Cap w)
  (C : Nat → Prop) (Hi : Nat → List Ent) (HC : List Ent) (La : Nat → Nat → List (Nat × Value)) (Ha : Nat → Nat → List Ent)
  (Cr : Nat → Prop) (Hr : Nat → List Ent) (idb : Nat) (Cb : Nat → Prop) (Hb : Nat → List Ent)
  (hC0 : C 0) (h0 : ∀ w, St w0 H w → St w0 (Hi 0 ++ HC) w)
  (hgs : ∀ i, (Hi i).map (·.g) = (Hi 0).map (·.g)) (hgr : ∀ i, (Hr i).map (·.g) = (Hi 0).map (·.g)) (hgb : ∀ i, (Hb i).map (·.g) = (Hi 0).map (·.g))
  (hcap : ∀ w, St w0 H w → ∀ k, Cap k → k < w.heap.size ∧ ∀ e ∈ Hi 0, e.g ≠ k)
  (hHa : ∀ i y, ∀ e ∈ Ha i y, y ≤ e.g)
  (hassign : ∀ l i v, i < N → C i → St w0 (Hi i ++ HC) v → TC P (Exit.then (AxP v (La i) (Ha i) (Hi i) ⟨n.size, [], .inn (some l)⟩) (fun _ _ _ => False)) ⟨n.size, [], .inn (some l)⟩ v assign ((p, V i) :: L) (Hi i))
  (hbody : ∀ l i y v, i < N → C i → w0.heap.size ≤ y → y ≤ v.heap.size → St w0 (Ha i y ++ (Hi i ++ HC)) v →
   TC P (RoundQ y v (C (i + 1)) (Hi (i + 1)) (Cr (i + 1)) (Hr (i + 1)) idb (Cb (i + 1)) (Hb (i + 1))) ⟨n.size, [], .inn (some l)⟩ v body (La i y) (Ha i y ++ Hi i))
  (hdone : ∀ D W, C N → St w0 (Hi N ++ HC) W → MarkAt w0 W D ((Hi 0 ++ HC).map (·.g)) → TE Q .normal ⟨n.size, [mark D], .plain⟩ W L (Hi N ++ HC))
  (hret : ∀ D W i, i < N → Cr (i + 1) → St w0 (Hr (i + 1) ++ HC) W → MarkAt w0 W D ((Hi 0 ++ HC).map (·.g)) → TE Q .ret ⟨n.size, [mark D], .plain⟩ W L (Hr (i + 1) ++ HC))
  (hbrk : ∀ D W i, i < N → Cb (i + 1) → St w0 (Hb (i + 1) ++ HC) W → MarkAt w0 W D ((Hi 0 ++ HC).map (·.g)) → TE Q (.exit idb) ⟨n.size, [mark D], .plain⟩ W L (Hb (i + 1) ++ HC)) :
  TC P Q n w0 (.rangeFunc g #[p] assign body) L H := by
 intro a w hf hs
 have hall := h0 w hs
 have hltI : ∀ e ∈ Hi 0, e.g < w.heap.size := fun e he => (hall.has e (List.mem_append.2 (.inl he))).lt
 have hltC : ∀ e ∈ HC, e.g < w.heap.size := fun e he => (hall.has e (List.mem_append.2 (.inr he))).lt
 have ltG : ∀ {Hx : List Ent}, Hx.map (·.g) = (Hi 0).map (·.g) → ∀ e ∈ Hx, e.g < w.heap.size := fun hx e he => by
  obtain ⟨d, hd, h⟩ := gs_mem hx e he
  rw [← h]; exact hltI d hd
 have capG : ∀ {Hx : List Ent}, Hx.map (·.g) = (Hi 0).map (·.g) → ∀ k, Cap k → ∀ e ∈ Hx, e.g ≠ k := fun hx k hk e he => by
  obtain ⟨d, hd, h⟩ := gs_mem hx e he
  rw [← h]; exact (hcap w hs k hk).2 d hd
 have apG : ∀ {Hx : List Ent}, Hx.map (·.g) = (Hi 0).map (·.g) → ∀ e ∈ Hx, ∀ d ∈ HC, e.g ≠ d.g := fun hx e he d hd => by
  obtain ⟨e', he', h⟩ := gs_mem hx e he
  rw [← h]; exact (List.pairwise_append.1 hall.apart).2.2 e' he' d hd
 have hsz := hs.size
 rw [hmd]
 have fin : ∀ {W : World}, W.heap[w.heap.size]? = some (.deferred (some [])) → MarkAt w0 W w.heap.size ((Hi 0 ++ HC).map (·.g)) := fun hD => ⟨hsz, hD, fun x hx => by
  obtain ⟨e, he, rfl⟩ := List.mem_map.1 hx
  rcases List.mem_append.1 he with he | he
  ·have := hltI e he; omega
  ·have := hltC e he; omega⟩
 have frM : ∀ D, Fr ⟨n.size, [mark D], .plain⟩ L { a with defers := { target := .collected D, args := #[] } :: a.defers } := fun D => ⟨by show _ :: a.defers = _; rw [hf.1, hds]; rfl, hf.2⟩
 refine wpIn_wide.1 (wpIn_rangeFunc_it (F := Fence.wide) (n := 3) (w0 := w) rfl (by omega) (gf := gf) (lb := lb.toArray) (hf.eval hg) trivial (fun args w => run_call hent args w) (hit w hs) (Below.refl _ _) (fun k hk => (hcap w hs k hk).1) (fun _ => rfl)
  (fun i W => C i ∧ St w0 (Hi i ++ HC) W)
  (fun j i W => match j with
   | .ret => Cr i ∧ St w0 (Hr i ++ HC) W
   | .exit id => id = idb ∧ Cb i ∧ St w0 (Hb i ++ HC) W
   | _ => False)
  (fun i a W => ∃ y, w.heap.size + 2 + c ≤ y ∧ y ≤ W.heap.size ∧ Fr ⟨n.size, [], .plain⟩ (La i y) a ∧ C i ∧ St w0 (Ha i y ++ (Hi i ++ HC)) W)
  ?hI ?hIx ?hAx ⟨hC0, hall⟩ ?assign ?body ?done ?stop)
 case hI =>
  rintro i A B ⟨h1, h2⟩ hb
  refine ⟨h1, h2.besides hb (fun e he => ?_) hsz⟩
  rcases List.mem_append.1 he with he | he
  ·exact .inl (ltG (hgs i) e he)
  ·exact .inl (hltC e he)
 case hIx =>
  rintro j i A B h hb
  have step : ∀ {Hx : List Ent}, Hx.map (·.g) = (Hi 0).map (·.g) → St w0 (Hx ++ HC) A → St w0 (Hx ++ HC) B := fun hx h2 => h2.besides hb (fun e he => by
   rcases List.mem_append.1 he with he | he
   ·exact .inl (ltG hx e he)
   ·exact .inl (hltC e he)) hsz
  cases j with
  | ret => exact ⟨h.1, step (hgr i) h.2⟩
  | exit id => exact ⟨h.1, h.2.1, step (hgb i) h.2.2⟩
  | _ => exact h.elim
 case hAx =>
  rintro i a' A B ⟨y, hy, hyA, hfr, hC, h2⟩ hb
  refine ⟨y, hy, Nat.le_trans hyA hb.size, hfr, hC, h2.besides hb (fun e he => ?_) hsz⟩
  rcases List.mem_append.1 he with he | he
  ·exact .inr (Nat.le_trans hy (hHa i y e he))
  ·rcases List.mem_append.1 he with he | he
   ·exact .inl (ltG (hgs i) e he)
   ·exact .inl (hltC e he)
 case assign =>
  rintro l i W hiN ⟨hC, hSt⟩ hWs
  have hfr : Fr ⟨n.size, [], .inn (some l)⟩ ((p, V i) :: L) { tmps := ((#[p] : Array Tmp).zip #[V i]).foldl (fun t (p, v) => t.setIfInBounds p v) a.tmps, defers := [] } := by
   have h := hf.put (some p) (V i) hp
   refine ⟨rfl, ?_, ?_⟩
   ·simpa [Act.put] using h.2.1
   ·have h3 := h.2.2
    unfold Proofs.YtegddcklbmonfaaGreatDoor.put at h3
    simpa [Act.put] using h3
  have h := hassign l i W hiN hC hSt _ W hfr hSt.self1
  refine wpIn_mono (wpIn_num (F := Fence.wide.inRound l) rfl (m := 2) h) ?_
  intro e a1 W1 hq
  cases e with
  | normal =>
   obtain ⟨y, hy, hyW, hfr1, hst⟩ := hq
   refine ⟨⟨y, by omega, hyW, ⟨hfr1.1, hfr1.2⟩, hC, ?_⟩, hst.size, ?_⟩
   ·have := St.over hSt hst (fun e he d hd => by
     rcases List.mem_append.1 he with he | he
     ·have h1 := hHa i y e he
      have h2 := hltC d hd
      omega
     ·exact apG (hgs i) e he d hd) (fun d hd => .inr ⟨d, List.mem_append.2 (.inr hd), rfl⟩)
    rw [List.append_assoc] at this
    exact this
   ·intro k hk hkW
    refine hst.old k hkW fun e he => ?_
    rcases List.mem_append.1 he with he | he
    ·have h1 := hHa i y e he
     omega
    ·rcases hk with hk | hk
     ·have := ltG (hgs i) e he; omega
     ·exact capG (hgs i) k hk e he
  | _ => exact hq.elim
 case body =>
  rintro l i a1 W hiN ⟨y, hy, hyW, hfr, hC, hSt⟩ hWs
  have hSt' : St w0 ((Ha i y ++ Hi i) ++ HC) W := by rw [List.append_assoc]; exact hSt
  have h := hbody l i y W hiN hC (by omega) hyW hSt a1 W ⟨hfr.1, hfr.2⟩ hSt'.self1
  refine wpIn_mono (wpIn_num (F := Fence.wide.inRound l) rfl (m := 2) h) ?_
  have keep : ∀ {Hx X : List Ent} {W' : World}, Hx.map (·.g) = (Hi 0).map (·.g) → (∀ e ∈ X, y ≤ e.g) → St W (X ++ Hx) W' →
    Holds (fun k => (w.heap.size ≤ k ∧ k < w.heap.size + 2 + c) ∨ Cap k) W W' ∧ w.heap.size + 2 + c ≤ W'.heap.size ∧ St w0 (Hx ++ HC) W' := fun {Hx X W'} hx hX hst => by
   refine ⟨fun k hk hkW => hst.old k hkW fun e he => ?_, Nat.le_trans hWs hst.size, ?_⟩
   ·rcases List.mem_append.1 he with he | he
    ·have h1 := hX e he
     rcases hk with hk | hk
     ·omega
     ·have := (hcap w hs k hk).1; omega
    ·rcases hk with hk | hk
     ·have := ltG hx e he; omega
     ·exact capG hx k hk e he
   ·have := St.over hSt' hst (fun e he d hd => by
     rcases List.mem_append.1 he with he | he
     ·have h1 := hX e he
      have h2 := hltC d hd
      omega
     ·exact apG hx e he d hd) (fun d hd => by
     rcases List.mem_append.1 hd with hd | hd
     ·have := hHa i y d hd
      exact .inl (by omega)
     ·have hdm : d.g ∈ Hx.map (·.g) := by rw [hx, ← hgs i]; exact List.mem_map_of_mem hd
      obtain ⟨e, he, h⟩ := List.mem_map.1 hdm
      exact .inr ⟨e, List.mem_append.2 (.inr he), h⟩)
    rw [List.append_assoc] at this
    exact zJ X this fun e he => by have := hX e he; omega
  intro e a2 W2 hq
  cases e with
  | normal =>
   obtain ⟨h1, X, hX, h2⟩ := hq
   have ⟨k1, kz, k2⟩ := keep (hgs (i + 1)) hX h2
   exact ⟨k1, kz, h1, k2⟩
  | ret =>
   obtain ⟨h1, X, hX, h2⟩ := hq
   have ⟨k1, kz, k2⟩ := keep (hgr (i + 1)) hX h2
   exact ⟨k1, kz, h1, k2⟩
  | exit id =>
   obtain ⟨h0, h1, X, hX, h2⟩ := hq
   have ⟨k1, kz, k2⟩ := keep (hgb (i + 1)) hX h2
   exact ⟨k1, kz, h0, h1, k2⟩
  | _ => exact hq.elim
 case done =>
  rintro W ⟨h1, h2⟩ hD
  exact hdone _ W h1 h2 (fin hD) _ W (frM _) h2.self
 case stop =>
  rintro j i W hiN h hD
  cases j with
  | ret => exact wpIn_ret (hret _ W i hiN h.1 h.2 (fin hD) _ W (frM _) h.2.self)
  | exit id =>
   obtain ⟨rfl, h1, h2⟩ := h
   exact wpIn_exit (hbrk _ W i hiN h1 h2 (fin hD) _ W (frM _) h2.self)
  | _ => exact h.elim
theorem calls_fromM {f : FuncId} {fn : Func} {c : Code} {args : List Value} {R : Ending → World → Prop} {N : Nat} (hf : P.funcs[f]? = some fn) (hb : fn.body = some c) (hN : fn.ntmps = N) (hl : args.length ≤ N)
  (h : TC P (bodyPostM Fence.wide 2 P fn R) ⟨N, [], .plain⟩ w c (args.zipIdx.map fun x => (x.2, x.1)) []) : Calls P f args.toArray w R := by
 subst hN
 exact callsIn_wide.1 (callsIn_of_wp_marks (n := 2) hf hb trivial (wpIn_wide.2 (h _ w (fr_args hl) (St.refl w))) rfl)
theorem callsIn_from {f : FuncId} {fn : Func} {c : Code} {args : List Value} {R : Ending → World → Prop} {N : Nat} (hf : P.funcs[f]? = some fn) (hb : fn.body = some c) (hN : fn.ntmps = N) (hl : args.length ≤ N)
  (h : TC P (bodyPost P fn R) ⟨N, [], .inn none⟩ w c (args.zipIdx.map fun x => (x.2, x.1)) []) : CallsIn Fence.wide 2 P f args.toArray w R := by
 subst hN
 exact callsIn_of_wp hf hb trivial (h _ w (fr_args hl) (St.refl w)) rfl
theorem TE.markR {fn : Func} {R : Ending → World → Prop} {D : Nat} {H0 H : List Ent} {gs : List Nat} (hm : MarkAt w0 W D gs) (hW : St w0 H0 W) (hgs : ∀ e ∈ H0, w0.heap.size ≤ e.g) (hov : ∀ e ∈ H, W.heap.size ≤ e.g ∨ e.g ∈ gs)
  (h : TE (bodyPost P fn R) ex ⟨n.size, [], .plain⟩ w0 L H) (hex : ex = .ret ∨ ex = .normal) : TE (bodyPostM Fence.wide 2 P fn R) ex ⟨n.size, [mark D], .plain⟩ W L H := by
 intro a w hf hs
 have hDW : D < W.heap.size := (Array.getElem?_eq_some_iff.1 hm.here).1
 have hne : ∀ e ∈ H, e.g ≠ D := fun e he => by
  rcases hov e he with h1 | h1
  ·omega
  ·exact hm.ne _ h1
 have hD : w.heap[D]? = some (.deferred (some [])) := (hs.old D hDW hne).trans hm.here
 have h1 : St w0 H w := by
  have := St.over (A := H0) (HC := []) (by rw [List.append_nil]; exact hW) hs (fun _ _ d hd => by cases hd) (fun d hd => .inl (hgs d hd))
  rwa [List.append_nil] at this
 have h2 : St w0 H (w.putObj D (.deferred none)) := ⟨h1.os, h1.tape, h1.output, by simpa using h1.size, fun e he => (h1.has e he).of_block (World.putObj_heap_other (hne e he)),
  fun b hb hneb => (World.putObj_heap_other (by have := hm.new; omega)).trans (h1.old b hb hneb), h1.apart⟩
 have h3 := h { a with defers := [] } _ ⟨rfl, hf.2⟩ h2
 have key : LeavesInM Fence.wide 2 P fn a.tmps R a.defers .returning w := by
  rw [hf.1]
  refine ⟨by simp, .inl ⟨D, _, rfl, run_takeDeferred hD, ?_⟩⟩
  rcases hex with rfl | rfl
  ·exact h3.2
  ·exact h3.2
 rcases hex with rfl | rfl
 ·exact key
 ·exact key
theorem TL.yield {l t : Nat} {xs : List Operand} {vs : List Value} {ts : Array TypeId} {T U : World → Prop} (hmd : n.md = .inn none) (hg : Wants n ops L o) (hi : inside n o.dst = true)
  (ho : o.op = .call { callee := .value (.tmp t), args := xs.toArray, argTypes := ts }) (ht : look L t = some (.func (.yield l) #[] #[])) (hx : evs L xs = some vs)
  (hy : ∀ w, St w0 H w → YieldAt Fence.wide 1 P l vs.toArray w fun e w' => (e = .returned (.bool true) ∧ T w') ∨ (e = .returned (.bool false) ∧ U w'))
  (h1 : ∀ v, T v → TL P ops Q n v rest (put L o.dst (.bool true)) []) (h2 : ∀ v, U v → TL P ops Q n v rest (put L o.dst (.bool false)) []) : TL P ops Q n w0 (o :: rest) L H := by
 intro a w hf hs
 obtain ⟨fn, tmps, assign, body, hyl, hr⟩ := hy w hs
 have h1' : ∀ v, T v → wpL n.md P ops Q rest (a.put o.dst (.bool true)) v := fun v hv => h1 v hv _ v (hf.put o.dst _ hi) (St.refl v)
 have h2' : ∀ v, U v → wpL n.md P ops Q rest (a.put o.dst (.bool false)) v := fun v hv => h2 v hv _ v (hf.put o.dst _ hi) (St.refl v)
 rw [hmd] at h1' h2' ⊢
 have hm := hf.evals hx
 have hev : a.eval (.tmp t) = .func (.yield l) #[] #[] := hf.eval (x := .tmp t) ht
 have hrun : (execOp a.eval o).run P w = .ok (.round l fn tmps assign body) w := by
  simp only [execOp, ho, resolve, hev, Deferred.ofValue, Sem.run_bind, Sem.run_pure, Result.andThen_ok, List.map_toArray, hm, invoke]
  simpa using hyl
 refine wpListIn_step fun K hK => ?_
 rw [if_pos (hg a hf)]
 refine ⟨fun _ _ => trivial, ?_⟩
 have hsem : (o.semAt (wideAt none).round a.eval).run P w = .ok (.round l fn tmps assign body) w := hrun
 rw [hsem]
 refine ⟨fun hd => by simp [wideAt, Fence.wide] at hd, ?_⟩
 refine RoundIn.mono (R := fun e w' => (e = .returned (.bool true) ∧ T w') ∨ (e = .returned (.bool false) ∧ U w')) ?_ ?_
 ·exact hr
 ·rintro e w' (⟨rfl, hT⟩ | ⟨rfl, hU⟩)
  ·exact hK _ _ (h1' w' hT)
  ·exact hK _ _ (h2' w' hU)
def BackW {ι : Type} (n : Sz) (Wi : ι → World) (Li : ι → List (Nat × Value)) (Hi : ι → List Ent) (μ : ι → Nat) (C : ι → Prop) (m : Nat) (a : Act) (w : World) : Prop :=
 ∃ i, μ i < m ∧ C i ∧ Fr n (Li i) a ∧ St (Wi i) (Hi i) w
theorem TE.backW {ι : Type} {Wi : ι → World} {Li : ι → List (Nat × Value)} {Hi : ι → List Ent} {μ : ι → Nat} {C : ι → Prop} {m : Nat} (i : ι) (hμ : μ i < m) (hC : C i) (hs : Sub (Li i) L) (hH : ∀ w, St w0 H w → St (Wi i) (Hi i) w) :
  TE (Exit.then (BackW n Wi Li Hi μ C m) Q) .normal n w0 L H := fun a w hf hst => ⟨i, hμ, hC, hf.sub hs, hH w hst⟩
theorem TC.loopW {ι : Type} (Wi : ι → World) (Li : ι → List (Nat × Value)) (Hi : ι → List Ent) (μ : ι → Nat) (C : ι → Prop) (i0 : ι) {c : Code} (hC : C i0) (hs : Sub (Li i0) L) (hH : ∀ w, St w0 H w → St (Wi i0) (Hi i0) w)
  (round : ∀ i, C i → TC P (Exit.then (BackW n Wi Li Hi μ C (μ i)) Q) n (Wi i) c (Li i) (Hi i)) : TC P Q n w0 (.loop c) L H := by
 intro a w hf hst
 let p : Act → World → Nat → Prop := fun a w m => ∃ i, μ i = m ∧ C i ∧ Fr n (Li i) a ∧ St (Wi i) (Hi i) w
 let M : Act → World → Nat := fun a w => leastOf (p a w)
 have hM : ∀ a w i, C i → Fr n (Li i) a → St (Wi i) (Hi i) w → M a w ≤ μ i := fun a w i h1 h2 h3 => (leastOf_spec (p := p a w) ⟨i, rfl, h1, h2, h3⟩).2 _ ⟨i, rfl, h1, h2, h3⟩
 refine wpn_loop (fun a w => ∃ i, C i ∧ Fr n (Li i) a ∧ St (Wi i) (Hi i) w) M ⟨i0, hC, hf.sub hs, hH w hst⟩ ?_
 rintro a w ⟨i, h1, h2, h3⟩
 obtain ⟨i', e', c', f', s'⟩ := (leastOf_spec (p := p a w) ⟨i, rfl, h1, h2, h3⟩).1
 have hMe : M a w = μ i' := e'.symm
 refine wpn_mono (round i' c' a w f' s') ?_
 intro e a2 w2 hq
 cases e with
 | normal =>
  obtain ⟨j, hj, hCj, hfj, hsj⟩ := hq
  refine ⟨⟨j, hCj, hfj, hsj⟩, ?_⟩
  have := hM a2 w2 j hCj hfj hsj
  omega
 | _ => exact hq
theorem run_enterF {f : FuncId} {t : Nat} {lb : List Value} {xs : List Operand} {ts : Array TypeId} {vs : List Value} {a : Act} {w : World} (h : Enters P f) (ho : o.op = .call { callee := .value (.tmp t), args := xs.toArray, argTypes := ts }) (hf : Fr n L a)
  (ht : look L t = some (.func (.func f) #[] lb.toArray)) (hx : evs L xs = some vs) : (execOp a.eval o).run P w = .ok (.enter f (vs ++ lb).toArray) w := by
 have hm := hf.evals hx
 have hev : a.eval (.tmp t) = .func (.func f) #[] lb.toArray := hf.eval (x := .tmp t) ht
 simp only [execOp, ho, resolve, hev, Deferred.ofValue, Sem.run_bind, Sem.run_pure, Result.andThen_ok, List.map_toArray, hm, invoke]
 simp [run_call h]
theorem TL.callF {ι : Type} {f : FuncId} {t : Nat} {lb : List Value} {xs : List Operand} {ts : Array TypeId} {vs : List Value} {V : ι → Value} {R : ι → Prop} {H' : ι → List Ent} (hg : Wants n ops L o) (hi : inside n o.dst = true) (h : Enters P f)
  (ho : o.op = .call { callee := .value (.tmp t), args := xs.toArray, argTypes := ts }) (ht : look L t = some (.func (.func f) #[] lb.toArray)) (hx : evs L xs = some vs)
  (hc : ∀ w, St w0 H w → Calls P f (vs ++ lb).toArray w fun e w' => ∃ i, e = .returned (V i) ∧ R i ∧ St w0 (H' i) w')
  (hr : ∀ i, R i → TL P ops Q n w0 rest (put L o.dst (V i)) (H' i)) : TL P ops Q n w0 (o :: rest) L H :=
 fun a w hf hs => wpL_wants hg.nd (hg a hf) fun K hK => by
  unfold Oper.wp; rw [run_enterF h ho hf ht hx]
  refine (hc w hs).mono ?_
  rintro e w' ⟨i, rfl, hR, hs'⟩
  exact hK _ _ (hr i hR _ _ (hf.put o.dst _ hi) hs')
theorem TL.call0F {f : FuncId} {t : Nat} {lb : List Value} {xs : List Operand} {ts : Array TypeId} {vs : List Value} {u : Value} (hg : Wants n ops L o) (hi : inside n o.dst = true) (h : Enters P f)
  (ho : o.op = .call { callee := .value (.tmp t), args := xs.toArray, argTypes := ts }) (ht : look L t = some (.func (.func f) #[] lb.toArray)) (hx : evs L xs = some vs)
  (hc : ∀ w, St w0 H w → Calls P f (vs ++ lb).toArray w fun e w' => e = .returned u ∧ St w [] w')
  (hr : TL P ops Q n w0 rest (put L o.dst u) H) : TL P ops Q n w0 (o :: rest) L H :=
 TL.callF (ι := Unit) (V := fun _ => u) (R := fun _ => True) (H' := fun _ => H) hg hi h ho ht hx (fun w hs => (hc w hs).mono fun e w' ⟨he, hw⟩ => ⟨(), he, trivial, hs.call' hw⟩) fun _ _ => hr
theorem Gets.makeFunc {fn : Fn} {xs ys : List Operand} {us vs : List Value} (ho : o.op = .makeFunc fn xs.toArray ys.toArray) (hx : evs L xs = some us) (hy : evs L ys = some vs) : Gets P n w0 o L H (.func fn us.toArray vs.toArray) := fun a w hf hs => by
 have h1 := hf.evals hx
 have h2 := hf.evals hy
 simp only [execOp, ho, List.map_toArray, h1, h2]
 rfl
end
/-
 A region that draws its order, with operations that change what the region or the call has made: kind 0 reads nothing that is changed or made, kind 3 makes blocks, kind 7 reads or changes what is made.
-/
section
variable {P : Program} {ops : Array Oper} {md : Region.Mode} {w0 : World} {HB : List Ent}
end
section
variable {P : Program} {ops : Array Oper} {Q : Exit → Act → World → Prop} {n : Sz} {w0 : World} {L L' : List (Nat × Value)} {HB X D : List Ent}
variable {o : Oper} {rest : List Oper} {v u : Value} {x y z : Operand} {k m j : Nat} {t t' e : TypeId} {ks : List Nat} {kd : IntKind} {r : Value → List Ent → Prop} {rs : List (Value → List Ent → Prop)}
end
/-
 A slice of the call's own whose elements have several cells each: 'append' onto it, in the text's order and in a region that draws its order.
-/
section
variable {P : Program} {ops : Array Oper} {Q : Exit → Act → World → Prop} {n : Sz} {w0 : World} {L L' : List (Nat × Value)} {H HB X X0 : List Ent}
variable {o : Oper} {rest : List Oper} {v u : Value} {x y z : Operand} {k m j : Nat} {t t' e : TypeId} {ks : List Nat} {kd : IntKind} {r : Value → List Ent → Prop} {rs : List (Value → List Ent → Prop)}
def OwnS (N : Nat) (t : TypeId) (s : Nat) (v : Value) (n : Nat) (cs : List Value) (He : List Ent) : Prop :=
 cs.length = n * s ∧ ((v = .slice none 0 0 ∧ n = 0 ∧ He = []) ∨ ∃ g cap, v = .slice (some ⟨g, 0, none⟩) n cap ∧ He = [⟨g, t, cs, cap * s⟩] ∧ N ≤ g ∧ n ≤ cap ∧ cap ≤ maxLen)
theorem OwnS.nil (N : Nat) (t : TypeId) (s : Nat) : OwnS N t s (.slice none 0 0) 0 [] [] := ⟨by simp, .inl ⟨rfl, rfl, rfl⟩⟩
theorem OwnS.empty {N g : Nat} {t : TypeId} {s tot : Nat} (h : N ≤ g) (ht : tot = 0 * s) : OwnS N t s (.slice (some ⟨g, 0, none⟩) 0 0) 0 [] [⟨g, t, [], tot⟩] := ⟨by simp, .inr ⟨g, 0, rfl, by rw [ht], h, Nat.le_refl _, by unfold maxLen; omega⟩⟩
theorem OwnS.mono {N N' s nn : Nat} {cs : List Value} {He : List Ent} (h : OwnS N' t s v nn cs He) (hN : N ≤ N') : OwnS N t s v nn cs He := by
 refine ⟨h.1, ?_⟩
 rcases h.2 with h | ⟨g, cap, h1, h2, h3, h4⟩
 ·exact .inl h
 ·exact .inr ⟨g, cap, h1, h2, Nat.le_trans hN h3, h4⟩
theorem OwnS.new {N s nn : Nat} {cs : List Value} {He : List Ent} (h : OwnS N t s v nn cs He) : ∀ e ∈ He, N ≤ e.g := by
 rcases h.2 with ⟨_, _, rfl⟩ | ⟨g, cap, _, rfl, hN, _⟩
 ·intro e he; cases he
 ·intro e he; rw [List.mem_singleton.1 he]; exact hN
theorem OwnS.form {N s nn : Nat} {cs : List Value} {He : List Ent} (h : OwnS N t s v nn cs He) : ∃ A c, v = .slice A nn c ∧ nn ≤ c ∧ c ≤ 9223372036854775807 := by
 rcases h.2 with ⟨rfl, rfl, rfl⟩ | ⟨g, cap, rfl, rfl, hN, hc, hm⟩
 ·exact ⟨none, 0, rfl, Nat.le_refl _, by omega⟩
 ·exact ⟨_, cap, rfl, hc, by unfold maxLen at hm; omega⟩
theorem OwnS.at0 {N s nn m c : Nat} {A : Option Addr} {cs : List Value} {He : List Ent} (h : OwnS N t s (.slice A m c) nn cs He) (hm : 0 < nn) : ∃ g, A = some ⟨g, 0, none⟩ ∧ m = nn ∧ He = [⟨g, t, cs, c * s⟩] ∧ N ≤ g ∧ nn ≤ c := by
 rcases h.2 with ⟨_, h2, _⟩ | ⟨g, cap, h1, h2, h3, h4, _⟩
 ·omega
 ·cases h1; exact ⟨g, rfl, rfl, h2, h3, h4⟩
theorem OwnS.row {w : World} {N s nn : Nat} {cs : List Value} {He : List Ent} (h : OwnS N t s v nn cs He) (hs : ∀ e ∈ He, e.lies w) : w.ownsRow N t s v nn cs := by
 refine ⟨h.1, ?_⟩
 rcases h.2 with ⟨rfl, rfl, rfl⟩ | ⟨g, cap, rfl, rfl, hN, hc, hm⟩
 ·exact .inl ⟨rfl, rfl⟩
 ·obtain ⟨cur, h1, h2, h3⟩ := hs _ (List.mem_singleton.2 rfl)
  refine .inr ⟨g, cap, cur, rfl, hN, h1, hc, hm, h2, ?_⟩
  rw [← h.1]
  apply List.ext_getElem?
  intro i
  simp only [List.getElem?_take]
  by_cases hi : i < cs.length
  ·rw [if_pos hi]
   have := h3 i _ (List.getElem?_eq_getElem hi)
   rw [List.getElem?_eq_getElem hi, Array.getElem?_toList]; exact this
  ·rw [if_neg hi, List.getElem?_eq_none (by omega)]
theorem ownS_of_row {w : World} {N s nn : Nat} {cs : List Value} (h : w.ownsRow N t s v nn cs) : ∃ He, OwnS N t s v nn cs He ∧ (He = [] ∨ ∃ e, He = [e] ∧ e.lies w ∧ N ≤ e.g ∧ v.ownBlock = some e.g) := by
 rcases h.2 with ⟨rfl, rfl⟩ | ⟨g, cap, cur, rfl, hN, h1, hc, hm, hsz, ht⟩
 ·exact ⟨[], ⟨h.1, .inl ⟨rfl, rfl, rfl⟩⟩, .inl rfl⟩
 ·refine ⟨[⟨g, t, cs, cap * s⟩], ⟨h.1, .inr ⟨g, cap, rfl, rfl, hN, hc, hm⟩⟩, .inr ⟨_, rfl, ⟨cur, h1, hsz, ?_⟩, hN, rfl⟩⟩
  intro i u hu
  have hi : i < cs.length := (List.getElem?_eq_some_iff.1 hu).1
  have h2 : (cur.toList.take (nn * s))[i]? = some u := by rw [ht]; exact hu
  rw [← h.1] at h2
  simpa [List.getElem?_take, hi] using h2
def SrcV (w : World) (As : Option Addr) (m : Nat) (news : List Value) : Prop := (As = none ∧ m = 0) ∨ ∃ a, As = some a ∧ ∀ j u, news[j]? = some u → w.cell? (a.add j) = some u
theorem run_append_none {w : World} {s nn bytes sc : Nat} {N : Nat} {cs : List Value} {He : List Ent} {zv : Value} {ty : TypeId} (h1 : P.underlying t = some (.slice e)) (hz : (P.info? e).map (fun i => (i.zero, i.size, i.bytes)) = some (some zv, s, bytes)) (h : OwnS N e s v nn cs He) :
  (Builtin.append_ #[t, t] ty #[v, .slice none 0 sc]).run P w = .ok v w := by
 obtain ⟨i, hi1, hi2⟩ := Option.map_eq_some_iff.1 hz
 rcases h.2 with ⟨rfl, rfl, rfl⟩ | ⟨g, cap, rfl, rfl, hN, hc, hm⟩
 ·simp [Builtin.append_, Sem.run_bind, run_under h1, sizeOf, typeInfo, hi1, Builtin.firstCells, Builtin.lenOf]
 ·simp [Builtin.append_, Sem.run_bind, run_under h1, sizeOf, typeInfo, hi1, Builtin.firstCells, Builtin.lenOf, storeCells, hc]
theorem run_appendS {w : World} {As : Option Addr} {s nn m sc bytes N : Nat} {cs news : List Value} {He : List Ent} {zv : Value} {ty : TypeId} (h1 : P.underlying t = some (.slice e)) (hz : (P.info? e).map (fun i => (i.zero, i.size, i.bytes)) = some (some zv, s, bytes)) (hzc : zv.cells.size = s) (hs0 : 0 < s)
  (hown : OwnS N e s v nn cs He) (hs : St w0 (H ++ He) w) (hN : N ≤ w0.heap.size) (hN2 : w0.heap.size ≤ N) (hl : news.length = m * s) (hsrc : SrcV w As m news) (h1c : ∀ u ∈ news, u.oneCell' = true) (h63 : nn + m ≤ maxLen) (hbytes : (nn + m) * bytes ≤ 140737488355328) (hsc : As = none → sc = sc) :
  ∃ v' w' He', (Builtin.append_ #[t, t] ty #[v, .slice As m sc]).run P w = .ok v' w' ∧ OwnS N e s v' (nn + m) (cs ++ news) He' ∧ St w0 (H ++ He') w' := by
 obtain rfl : N = w0.heap.size := by omega
 rcases hsrc with ⟨rfl, rfl⟩ | ⟨a, rfl, hcells⟩
 ·have hn : news = [] := List.length_eq_zero_iff.1 (by rw [hl]; simp)
  subst hn
  exact ⟨v, w, He, run_append_none h1 hz hown, by rw [List.append_nil, Nat.add_zero]; exact hown, hs⟩
 ·obtain ⟨i, hi1, hi2⟩ := Option.map_eq_some_iff.1 hz
  simp only [Prod.mk.injEq] at hi2
  obtain ⟨hz1, hz2, hz3⟩ := hi2
  have hrow := hown.row (w := w) hs.right
  obtain ⟨v', w', hrun, hrow', hgrown, hblk0, h6⟩ := run_append_own_at (P := P) w w0.heap.size t ty e i zv s bytes h1 hi1 hz1 hz2 hz3 hzc hs0 v nn cs hrow a m sc news hl hcells h1c h63 hbytes hs.size
  obtain ⟨He', hown', hHe⟩ := ownS_of_row hrow'
  refine ⟨v', w', He', hrun, hown', St.regrow hs hgrown ?_ ?_ ?_ ?_⟩
  ·rcases hown.2 with ⟨rfl, _, rfl⟩ | ⟨g, cap, rfl, rfl, _⟩
   ·simp
   ·simp [Value.ownBlock]
  ·rcases hown.2 with ⟨rfl, _, rfl⟩ | ⟨g, cap, rfl, rfl, hN, _⟩
   ·simp [Value.ownBlock]
   ·simp only [Value.ownBlock]; rintro b hb; cases hb; exact hN
  ·rcases hown.2 with ⟨rfl, _, rfl⟩ | ⟨g, cap, rfl, rfl, hN, _⟩
   ·simp [Value.ownBlock]
   ·intro c hc heq
    simp only [Value.ownBlock, Option.some.injEq] at heq
    exact (List.pairwise_append.1 hs.apart).2.2 c hc _ (List.mem_singleton.2 rfl) heq
  ·rcases hHe with h | ⟨d, h, hd, hdN, hdv⟩
   ·exact .inl h
   ·refine .inr ⟨d, h, hd, hdN, ?_⟩
    rcases h6 with hb | hb
    ·left; rw [← hdv, hb]
    ·right; have := Option.some.inj (hb.symm.trans hdv); omega
theorem TL.appendS {As : Option Addr} {s nn sc bytes : Nat} {cs news : List Value} {He : List Ent} {zv : Value} (hg : Wants n ops L o) (hi' : inside n o.dst = true) (ho : o.op = .call { callee := .builtin .append, args := #[x, y], argTypes := #[t, t] })
  (h1 : P.underlying t = some (.slice e)) (hz : (P.info? e).map (fun i => (i.zero, i.size, i.bytes)) = some (some zv, s, bytes)) (hzc : zv.cells.size = s) (hs0 : 0 < s)
  (hx : ev L x = some v) (hy : ev L y = some (.slice As m sc)) (hown : OwnS w0.heap.size e s v nn cs He) (hl : news.length = m * s) (hsrc : ∀ w, St w0 (H ++ He) w → SrcV w As m news) (h1c : ∀ u ∈ news, u.oneCell' = true)
  (h63 : nn + m ≤ maxLen) (hbytes : (nn + m) * bytes ≤ 140737488355328)
  (hr : ∀ v' He', OwnS w0.heap.size e s v' (nn + m) (cs ++ news) He' → TL P ops Q n w0 rest (put L o.dst v') (H ++ He')) : TL P ops Q n w0 (o :: rest) L (H ++ He) :=
 fun a w hf hs => wpL_wants hg.nd (hg a hf) fun K hK => by
  obtain ⟨v', w', He', hrun, hown', hst⟩ := run_appendS (P := P) (t := t) (ty := o.type) (sc := sc) h1 hz hzc hs0 hown hs (Nat.le_refl _) (Nat.le_refl _) hl (hsrc w hs) h1c h63 hbytes (fun _ => rfl)
  have hrun' : (execOp a.eval o).run P w = .ok (.value v') w' := by
   simp only [execOp, ho, resolve, invoke, builtin, Sem.run_bind, Sem.run_pure, Result.andThen_ok, List.map_toArray, List.map_cons, List.map_nil, hf.eval hx, hf.eval hy, hrun]
  unfold Oper.wp; rw [hrun']
  exact hK _ _ (hr v' He' hown' _ _ (hf.put o.dst _ hi') hst)
end
theorem lies_srcV {w : World} {g t tot m : Nat} {cs : List Value} (h : Ent.lies ⟨g, t, cs, tot⟩ w) : SrcV w (some ⟨g, 0, none⟩) m cs := .inr ⟨_, rfl, fun j u hu => by
 rw [addr_add, Nat.zero_add]; exact h.cell hu⟩
/-
 Commands in a slice of the call's own.
-/
def flatC (Cs : List CV) : List Value := Cs.flatMap cellsC
theorem cellsC_len (x : CV) : (cellsC x).length = 5 := rfl
theorem flatC_len (Cs : List CV) : (flatC Cs).length = Cs.length * 5 := by
 induction Cs with
 | nil => rfl
 | cons x l ih => unfold flatC at *; rw [List.flatMap_cons, List.length_append, ih, cellsC_len, List.length_cons]; omega
theorem flatC_app (Cs Es : List CV) : flatC (Cs ++ Es) = flatC Cs ++ flatC Es := by unfold flatC; rw [List.flatMap_append]
theorem flatC_one (x : CV) : flatC [x] = cellsC x := by unfold flatC; simp
theorem flatC_get : ∀ {Cs : List CV} {i : Nat} {x : CV} {j : Nat} {u : Value}, Cs[i]? = some x → (cellsC x)[j]? = some u → (flatC Cs)[5 * i + j]? = some u
 | [], i, x, j, u, h, _ => by simp at h
 | y :: l, 0, x, j, u, h, hu => by
  simp at h; subst h
  have hj : j < 5 := by have := (List.getElem?_eq_some_iff.1 hu).1; rw [cellsC_len] at this; exact this
  show (flatC ([y] ++ l))[5 * 0 + j]? = some u
  rw [flatC_app, flatC_one, List.getElem?_append_left (by rw [cellsC_len]; omega), Nat.mul_zero, Nat.zero_add]; exact hu
 | y :: l, i + 1, x, j, u, h, hu => by
  simp at h
  show (flatC ([y] ++ l))[5 * (i + 1) + j]? = some u
  rw [flatC_app, flatC_one, List.getElem?_append_right (by rw [cellsC_len]; omega), cellsC_len]
  have := flatC_get (Cs := l) h hu
  rw [← this]; congr 1; omega
theorem flatC_one' (Cs : List CV) : ∀ u ∈ flatC Cs, u.oneCell' = true := fun u hu => by
 unfold flatC at hu
 obtain ⟨x, _, hx⟩ := List.mem_flatMap.1 hu
 simp only [cellsC, List.mem_cons, List.not_mem_nil, or_false] at hx
 rcases hx with rfl | rfl | rfl | rfl | rfl <;> rfl
theorem SrcC.cut {w : World} {b off m i l : Nat} {Cs : List CV} (h : RowsC w b off Cs) (hm : Cs.length = m) (hl : i + l ≤ m) : RowsC w b (off + 5 * i) ((Cs.drop i).take l) := fun q x hx j u hu => by
 rw [List.getElem?_take] at hx
 split at hx
 ·rw [List.getElem?_drop] at hx
  have := h (i + q) x hx j u hu
  rw [show off + 5 * i + 5 * q + j = off + 5 * (i + q) + j by omega]; exact this
 ·cases hx
theorem RowsC.srcV {w : World} {b off m : Nat} {Cs : List CV} (h : RowsC w b off Cs) : SrcV w (some ⟨b, off, none⟩) m (flatC Cs) := by
 refine .inr ⟨_, rfl, fun j u hu => ?_⟩
 rw [addr_add]
 have hj := (List.getElem?_eq_some_iff.1 hu).1
 rw [flatC_len] at hj
 have hi : j / 5 < Cs.length := by omega
 have hx : Cs[j / 5]? = some Cs[j / 5] := List.getElem?_eq_getElem hi
 have hr : j % 5 < 5 := Nat.mod_lt _ (by omega)
 have hu2 : (cellsC Cs[j / 5])[j % 5]? = some ((cellsC Cs[j / 5])[j % 5]'(by rw [cellsC_len]; exact hr)) := List.getElem?_eq_getElem _
 have h2 := flatC_get hx hu2
 rw [show 5 * (j / 5) + j % 5 = j by omega, hu] at h2
 cases h2
 have := h _ _ hx _ _ hu2
 rw [show off + j = off + 5 * (j / 5) + j % 5 by omega]
 exact this
theorem OwnS.srcC {N m c : Nat} {A : Option Addr} {t : TypeId} {Cs : List CV} {He : List Ent} {w : World} (h : OwnS N t 5 (.slice A m c) m (flatC Cs) He) (hs : ∀ e ∈ He, e.lies w) : SrcC w A m Cs := by
 have hl : Cs.length = m := by have := h.1; rw [flatC_len] at this; omega
 refine ⟨hl, ?_⟩
 rcases h.2 with ⟨h1, h2, rfl⟩ | ⟨g, cap, h1, rfl, hN, hc, hm⟩
 ·exact .inl h2
 ·cases h1
  have hlie := hs _ (List.mem_singleton.2 rfl)
  refine .inr ⟨g, 0, rfl, hlie.lt, fun i x hx j u hu => ?_⟩
  rw [show 0 + 5 * i + j = 5 * i + j by omega]
  exact hlie.cell (flatC_get hx hu)
/-
 Insertion: where a command is put into a sorted list of commands.
-/
structure WS where
 i : Nat
 v : Value
 Es : List CV
 He : List Ent
def leC (x y : CV) : Prop := x.t ≤ y.t
theorem SrcC.srcHead {w : World} {A : Option Addr} {m q : Nat} {Cs : List CV} (h : SrcC w A m Cs) (hq : q ≤ m) : SrcV w A q (flatC (Cs.take q)) := by
 rcases h.2 with rfl | ⟨b, off, rfl, hb, hr⟩
 ·obtain rfl : q = 0 := by omega
  cases A with
  | none => exact .inl ⟨rfl, rfl⟩
  | some a => exact .inr ⟨a, rfl, fun j u hu => by simp [flatC] at hu⟩
 ·have := SrcC.cut (i := 0) (l := q) hr h.1 (by omega)
  rw [List.drop_zero] at this
  exact this.srcV
theorem SrcC.srcAll {w : World} {A : Option Addr} {m : Nat} {Cs : List CV} (h : SrcC w A m Cs) : SrcV w A m (flatC Cs) := by
 have := h.srcHead (Nat.le_refl _)
 rwa [List.take_of_length_le (by have := h.1; omega)] at this
theorem ValidC.perm {o n : Int} {Cs Es : List CV} (h : ValidC o n Cs) (hp : Es.Perm Cs) : tidyT 0 n (Es.map tg) ∧ coverT 0 n (Es.map tg) ∧ sumT (Es.map tg) = n := ⟨h.tidy.perm (hp.symm.map tg), h.cover.perm (hp.symm.map tg), by rw [sumT_perm (hp.map tg)]; exact h.sum⟩
/-
 Commands that a callee has made; what the check of a delta depends on; a delta without a command, and with one twice; the chapter's example.
-/
def OwnD (N : Nat) (A : Option Addr) (m : Nat) (Es : List CV) (He : List Ent) : Prop := (∀ e ∈ He, N ≤ e.g) ∧ NumsC Es ∧ (m = 0 ∨ ∃ b off, A = some ⟨b, off, none⟩) ∧ ∀ w : World, (∀ e ∈ He, e.lies w) → SrcC w A m Es ∧ DatC w Es
theorem OwnD.mono {N N' m : Nat} {A : Option Addr} {Es : List CV} {He : List Ent} (h : OwnD N' A m Es He) (hN : N ≤ N') : OwnD N A m Es He := ⟨fun e he => Nat.le_trans hN (h.1 e he), h.2⟩
theorem OwnD.num {N m : Nat} {A : Option Addr} {Es : List CV} {He : List Ent} (h : OwnD N A m Es He) : NumsC Es := h.2.1
theorem OwnD.src {N m : Nat} {A : Option Addr} {Es : List CV} {He : List Ent} (h : OwnD N A m Es He) {w : World} (hs : ∀ e ∈ He, e.lies w) : SrcC w A m Es := (h.2.2.2 w hs).1
theorem OwnD.dat {N m : Nat} {A : Option Addr} {Es : List CV} {He : List Ent} (h : OwnD N A m Es He) {w : World} (hs : ∀ e ∈ He, e.lies w) : DatC w Es := (h.2.2.2 w hs).2
def keyE (x : CV) : (Int × Int × Int × Int × List Int) × Nat := (valC x, x.m)
def sameE (Fs Gs : List CV) : Prop := Fs.map keyE = Gs.map keyE
theorem sameE.c {Fs Gs : List CV} (h : sameE Fs Gs) : sameC Fs Gs := by
 have := congrArg (List.map Prod.fst) h
 rw [List.map_map, List.map_map] at this; exact this
theorem sameE.len {Fs Gs : List CV} (h : sameE Fs Gs) : Fs.length = Gs.length := sameC_len h.c
def fewQ (Cs : List CV) : Prop := (∀ (i : Nat) (x : CV), Cs[i]? = some x → x.m ≤ 300) ∧ Cs.length ≤ 5000
theorem fewP.q {Cs : List CV} (h : fewP Cs) : fewQ Cs := ⟨h.1, by have := h.2; omega⟩
theorem fewQ.sub2 {Cs Es : List CV} (h : fewQ Cs) (hp : Es.Perm Cs) : fewQ Es := ⟨fun i x hx => by
 obtain ⟨j, hj⟩ := List.mem_iff_getElem?.1 (hp.mem_iff.1 (List.mem_of_getElem? hx))
 exact h.1 j x hj, by rw [hp.length_eq]; exact h.2⟩
theorem NumsC.sub {Cs Es : List CV} (h : NumsC Cs) (hs : ∀ x ∈ Es, x ∈ Cs) : NumsC Es := fun i x hx => by
 obtain ⟨j, hj⟩ := List.mem_iff_getElem?.1 (hs x (List.mem_of_getElem? hx))
 exact h j x hj
theorem DatC.sub {w : World} {Cs Es : List CV} (h : DatC w Cs) (hs : ∀ x ∈ Es, x ∈ Cs) : DatC w Es := fun i x hx => by
 obtain ⟨j, hj⟩ := List.mem_iff_getElem?.1 (hs x (List.mem_of_getElem? hx))
 exact h j x hj
def normC (x : CV) : CV := { x with A := none, c := 0, B := [] }
theorem firstF_congr {p q : Nat → Prop} (h : ∀ i, p i ↔ q i) : firstF p = firstF q := by
 have : p = q := funext fun i => propext (h i)
 rw [this]
theorem faultI_norm (o n : Int) (Cs : List CV) : faultI o n (Cs.map normC) = faultI o n Cs := by
 have h1 : firstF (bad1 o n (Cs.map normC)) = firstF (bad1 o n Cs) := firstF_congr fun i => by
  unfold bad1
  rw [List.getElem?_map]
  constructor
  ·rintro ⟨x, hx, hn⟩
   obtain ⟨y, hy, rfl⟩ := Option.map_eq_some_iff.1 hx
   exact ⟨y, hy, hn⟩
  ·rintro ⟨x, hx, hn⟩
   exact ⟨normC x, by rw [hx]; rfl, hn⟩
 have h2 : firstF (bad2 (Cs.map normC)) = firstF (bad2 Cs) := firstF_congr fun i => by
  unfold bad2
  constructor
  ·rintro ⟨x, j, y, hx, hj, hy, hm⟩
   rw [List.getElem?_map] at hx hy
   obtain ⟨x', hx', rfl⟩ := Option.map_eq_some_iff.1 hx
   obtain ⟨y', hy', rfl⟩ := Option.map_eq_some_iff.1 hy
   exact ⟨x', j, y', hx', hj, hy', hm⟩
  ·rintro ⟨x, j, y, hx, hj, hy, hm⟩
   exact ⟨normC x, j, normC y, by rw [List.getElem?_map, hx]; rfl, hj, by rw [List.getElem?_map, hy]; rfl, hm⟩
 have h3 : (Cs.map normC).map tg = Cs.map tg := by rw [List.map_map]; rfl
 have h4 : gapI n (Cs.map normC) = gapI n Cs := by unfold gapI; rw [h3]
 have h5 : ∀ i : Nat, ((Cs.map normC)[i]?).elim 0 (singleV o n) = (Cs[i]?).elim 0 (singleV o n) := fun i => by
  rw [List.getElem?_map]
  cases Cs[i]? <;> rfl
 unfold faultI
 rw [h1, h2, h4]
 simp only [h5]
theorem findI_norm (Cs : List CV) (p : Int) : findI (Cs.map normC) p = findI Cs p := findI_is (by
 rcases findI_spec Cs p with ⟨h1, h2⟩ | ⟨i, x, h1, h2, h3, h4⟩
 ·refine .inl ⟨h1, fun i x hx => ?_⟩
  rw [List.getElem?_map] at hx
  obtain ⟨y, hy, rfl⟩ := Option.map_eq_some_iff.1 hx
  exact h2 i y hy
 ·refine .inr ⟨i, normC x, h1, by rw [List.getElem?_map, h2]; rfl, h3, fun j y hj hy => ?_⟩
  rw [List.getElem?_map] at hy
  obtain ⟨z, hz, rfl⟩ := Option.map_eq_some_iff.1 hy
  exact h4 j z hj hz)
theorem sameE.nrm {Cs Es : List CV} (h : sameE Es Cs) : Es.map normC = Cs.map normC := by
 have := congrArg (List.map fun (q : (Int × Int × Int × Int × List Int) × Nat) => (⟨q.1.1, q.1.2.1, q.1.2.2.1, q.1.2.2.2.1, none, q.2, 0, []⟩ : CV)) h
 rw [List.map_map, List.map_map] at this; exact this
theorem faultI_same {o n : Int} {Cs Es : List CV} (h : sameE Es Cs) : faultI o n Es = faultI o n Cs := by
 rw [← faultI_norm o n Es, h.nrm, faultI_norm]
theorem single_of {o n : Int} {Cs : List CV} (h : ∀ (i : Nat) (x : CV), Cs[i]? = some x → singleV o n x = 0) {Es : List CV} (hs : ∀ x ∈ Es, x ∈ Cs) : ∀ (i : Nat) (x : CV), Es[i]? = some x → singleV o n x = 0 := fun i x hx => by
 obtain ⟨j, hj⟩ := List.mem_iff_getElem?.1 (hs x (List.mem_of_getElem? hx))
 exact h j x hj
theorem bad2_none {N : Int} {Es : List CV} (ht : tidyT 0 N (Es.map tg)) : ∀ i, ¬ bad2 Es i := by
 rintro i ⟨x, j, y, hx, hj, hy, hm⟩
 have h2 := List.pairwise_iff_getElem.1 ht.2
 obtain ⟨hil, rfl⟩ := List.getElem?_eq_some_iff.1 hx
 obtain ⟨hjl, rfl⟩ := List.getElem?_eq_some_iff.1 hy
 have h3 := h2 j i (by simpa using hjl) (by simpa using hil) hj
 simp only [List.getElem_map] at h3
 have hpi := ht.1 (tg Es[i]) (List.mem_map.2 ⟨_, List.getElem_mem hil, rfl⟩)
 have hpj := ht.1 (tg Es[j]) (List.mem_map.2 ⟨_, List.getElem_mem hjl, rfl⟩)
 unfold okT at hpi hpj
 exact (meets_apart hpi.2.1 hpj.2.1).2 h3.symm hm
theorem valid_of {o n : Int} {Es : List CV} (h1 : okLen o n) (h2 : ∀ (i : Nat) (x : CV), Es[i]? = some x → singleV o n x = 0) (h3 : tidyT 0 n (Es.map tg)) (h4 : coverT 0 n (Es.map tg)) : faultI o n Es = (0, 0) := by
 rw [faultI_gap h1 h2 (bad2_none h3), gapI_no h4]; rfl
theorem ValidC.permV {o n : Int} {Cs Es : List CV} (h : ValidC o n Cs) (hp : Es.Perm Cs) : faultI o n Es = (0, 0) := by
 obtain ⟨h1, h2, _⟩ := h.perm hp
 exact valid_of h.len (single_of h.single fun x hx => hp.mem_iff.1 hx) h1 h2
theorem lies_srcC {w : World} {g t tot m : Nat} {cs : List Value} {Cs : List CV} (h : Ent.lies ⟨g, t, cs, tot⟩ w) (hc : cs = flatC Cs) (hm : Cs.length = m) : SrcC w (some ⟨g, 0, none⟩) m Cs := ⟨hm, .inr ⟨g, 0, rfl, h.lt, fun i x hx j u hu => by
 subst hc
 rw [Nat.zero_add]
 exact h.cell (flatC_get hx hu)⟩⟩
/-
 Targets in ascending order, with the index of their command: the first overlap, the first gap.
-/
structure TV where
 o : Int
 l : Int
 x : Nat
instance : Inhabited TV := ⟨⟨0, 0, 0⟩⟩
def cellsT (t : TV) : List Value := [int .i64 t.o, int .i64 t.l, int .i64 t.x]
def flatT (Ts : List TV) : List Value := Ts.flatMap cellsT
theorem flatT_len (Ts : List TV) : (flatT Ts).length = Ts.length * 3 := by
 induction Ts with
 | nil => rfl
 | cons x l ih => unfold flatT at ih ⊢; rw [List.flatMap_cons, List.length_append, ih]; show 3 + _ = _; simp only [List.length_cons]; omega
theorem cellsT_len (x : TV) : (cellsT x).length = 3 := rfl
def leT (x y : TV) : Prop := x.o ≤ y.o
theorem flatT_app (Ts Es : List TV) : flatT (Ts ++ Es) = flatT Ts ++ flatT Es := by unfold flatT; rw [List.flatMap_append]
theorem flatT_one (x : TV) : flatT [x] = cellsT x := by unfold flatT; simp
theorem flatT_get : ∀ {Ts : List TV} {i : Nat} {x : TV} {j : Nat} {u : Value}, Ts[i]? = some x → (cellsT x)[j]? = some u → (flatT Ts)[3 * i + j]? = some u
 | [], i, x, j, u, h, _ => by simp at h
 | y :: l, 0, x, j, u, h, hu => by
  simp at h; subst h
  have hj : j < 3 := (List.getElem?_eq_some_iff.1 hu).1
  show (cellsT y ++ flatT l)[3 * 0 + j]? = some u
  rw [List.getElem?_append_left (by show _ < 3; omega)]
  simpa using hu
 | y :: l, i + 1, x, j, u, h, hu => by
  show (cellsT y ++ flatT l)[3 * (i + 1) + j]? = some u
  rw [List.getElem?_append_right (by show 3 ≤ _; omega)]
  show (flatT l)[3 * (i + 1) + j - 3]? = some u
  rw [show 3 * (i + 1) + j - 3 = 3 * i + j by omega]
  exact flatT_get (by simpa using h) hu
theorem flatT_one' (Ts : List TV) : ∀ u ∈ flatT Ts, u.oneCell' = true := fun u hu => by
 unfold flatT at hu
 obtain ⟨x, hx, hu⟩ := List.mem_flatMap.1 hu
 unfold cellsT at hu
 simp only [List.mem_cons, List.not_mem_nil, or_false] at hu
 rcases hu with rfl | rfl | rfl <;> rfl
def tvA : Nat → List CV → List TV
 | _, [] => []
 | i, c :: Cs => ⟨c.t, lenV c.k c.l c.m, i⟩ :: tvA (i + 1) Cs
abbrev tvOf (Cs : List CV) : List TV := tvA 0 Cs
theorem tvA_len : ∀ (i : Nat) (Cs : List CV), (tvA i Cs).length = Cs.length
 | _, [] => rfl
 | i, c :: Cs => by simp [tvA, tvA_len (i + 1) Cs]
theorem tvA_of : ∀ {i : Nat} {Cs : List CV} {t : TV}, t ∈ tvA i Cs → ∃ (j : Nat) (c : CV), Cs[j]? = some c ∧ t = ⟨c.t, lenV c.k c.l c.m, i + j⟩
 | i, c :: Cs, t, h => by
  rcases List.mem_cons.1 h with rfl | h
  ·exact ⟨0, c, rfl, rfl⟩
  ·obtain ⟨j, c', h1, h2⟩ := tvA_of h
   exact ⟨j + 1, c', by simpa using h1, by rw [h2]; congr 1; omega⟩
theorem tvA_app : ∀ (i : Nat) (Cs Es : List CV), tvA i (Cs ++ Es) = tvA i Cs ++ tvA (i + Cs.length) Es
 | i, [], Es => by simp [tvA]
 | i, c :: Cs, Es => by simp [tvA, tvA_app (i + 1) Cs Es, Nat.add_comm, Nat.add_left_comm]
def stT (Cs : List CV) (m i : Nat) : List TV := tvA 0 (Cs.take i) ++ List.replicate (m - i) ⟨0, 0, 0⟩
theorem stT_zero (Cs : List CV) (m : Nat) : stT Cs m 0 = List.replicate m ⟨0, 0, 0⟩ := by simp [stT, tvA]
theorem stT_rep (Cs : List CV) (m : Nat) : (List.replicate m [int .i64 0, int .i64 0, int .i64 0]).flatten = flatT (stT Cs m 0) := by
 rw [stT_zero]
 induction m with
 | zero => rfl
 | succ m ih => rw [List.replicate_succ, List.replicate_succ, List.flatten_cons, ih]; unfold flatT; rw [List.flatMap_cons]; rfl
theorem stT_all {Cs : List CV} {m : Nat} (hl : Cs.length = m) : stT Cs m m = tvOf Cs := by unfold stT; rw [List.take_of_length_le (by omega)]; simp
theorem stT_len {Cs : List CV} {m i : Nat} (hl : Cs.length = m) (hi : i ≤ m) : (stT Cs m i).length = m := by
 unfold stT; rw [List.length_append, tvA_len, List.length_replicate, List.length_take]; omega
theorem stT_step {Cs : List CV} {m i : Nat} {c : CV} (hl : Cs.length = m) (hc : Cs[i]? = some c) :
  (flatT (stT Cs m i)).take (3 * i) ++ cellsT ⟨c.t, lenV c.k c.l c.m, i⟩ ++ (flatT (stT Cs m i)).drop (3 * i + 3) = flatT (stT Cs m (i + 1)) := by
 have hi := (List.getElem?_eq_some_iff.1 hc).1
 have e1 : stT Cs m i = tvA 0 (Cs.take i) ++ (⟨0, 0, 0⟩ :: List.replicate (m - (i + 1)) ⟨0, 0, 0⟩) := by
  unfold stT; rw [show m - i = (m - (i + 1)) + 1 by omega, List.replicate_succ]
 have e2 : stT Cs m (i + 1) = tvA 0 (Cs.take i) ++ (⟨c.t, lenV c.k c.l c.m, i⟩ :: List.replicate (m - (i + 1)) ⟨0, 0, 0⟩) := by
  unfold stT
  rw [List.take_add_one, hc, Option.toList_some, tvA_app, List.append_assoc]
  congr 1
  simp only [tvA, List.length_take, Nat.zero_add, List.cons_append, List.nil_append]
  rw [show min i Cs.length = i by omega]
 have h3 : (flatT (tvA 0 (Cs.take i))).length = 3 * i := by rw [flatT_len, tvA_len, List.length_take]; omega
 rw [e1, e2, flatT_app, flatT_app]
 have h4 : ∀ (z : TV) (R : List TV), flatT (z :: R) = cellsT z ++ flatT R := fun z R => by unfold flatT; rw [List.flatMap_cons]
 rw [h4, h4]
 rw [List.take_left' h3, List.append_assoc]
 congr 1
 congr 1
 rw [← List.drop_drop, List.drop_left' h3]
 rfl
def pr (t : TV) : Int × Int := (t.o, t.l)
theorem tvA_pr : ∀ (i : Nat) (Cs : List CV), (tvA i Cs).map pr = Cs.map tg
 | _, [] => rfl
 | i, c :: Cs => by simp [tvA, tvA_pr (i + 1) Cs, pr, tg]
def upT (i : Int) (t : TV) : Bool := decide ((t.x : Int) ≤ i)
def upF (Ts : List TV) (i : Int) : List (Int × Int) := (Ts.filter (upT i)).map pr
theorem filter_tvA : ∀ (i : Nat) (Cs : List CV) (q : Nat), (tvA i Cs).filter (upT ((i + q : Nat) : Int)) = tvA i (Cs.take (q + 1))
 | _, [], _ => by simp [tvA]
 | i, c :: Cs, 0 => by
  have h : ∀ (k : Nat) (Cs : List CV), i < k → (tvA k Cs).filter (upT ((i : Nat) : Int)) = [] := fun k Cs => by
   induction Cs generalizing k with
   | nil => intro _; rfl
   | cons c Cs ih => intro hk; simp only [tvA, List.filter_cons]; rw [if_neg (by unfold upT; simp; omega)]; exact ih (k + 1) (by omega)
  simp only [tvA, List.filter_cons, Nat.add_zero, List.take_succ_cons, List.take_zero]
  rw [if_pos (by unfold upT; simp), h (i + 1) Cs (by omega)]
 | i, c :: Cs, q + 1 => by
  have := filter_tvA (i + 1) Cs q
  simp only [tvA, List.filter_cons, List.take_succ_cons]
  rw [if_pos (by unfold upT; simp; omega), ← this, show i + 1 + q = i + (q + 1) by omega]
def endF (F : List (Int × Int)) : Nat → Int
 | 0 => 0
 | i + 1 => match F[i]? with
  | some p => p.1 + p.2
  | none => 0
theorem endF_succ {F : List (Int × Int)} {i : Nat} {p : Int × Int} (h : F[i]? = some p) : endF F (i + 1) = p.1 + p.2 := by simp [endF, h]
def ovF (F : List (Int × Int)) : Prop := ∃ i p, F[i]? = some p ∧ p.1 < endF F i
open Classical in
noncomputable instance (F : List (Int × Int)) : Decidable (ovF F) := Classical.propDecidable _
def gapR (F : List (Int × Int)) (g : Int) : Prop := ∃ k, k ≤ F.length ∧ g = endF F k ∧ (∀ j p, j < k → F[j]? = some p → p.1 ≤ endF F j) ∧ (k = F.length ∨ ∃ p, F[k]? = some p ∧ endF F k < p.1)
def srtF (F : List (Int × Int)) : Prop := F.Pairwise (fun p q => p.1 ≤ q.1)
def posF (F : List (Int × Int)) : Prop := ∀ p ∈ F, 0 ≤ p.1 ∧ 1 ≤ p.2
theorem no_ov {F : List (Int × Int)} (hp : posF F) (h : ¬ ovF F) : ∀ (j : Nat) (q : Int × Int), F[j]? = some q → ∀ (i : Nat) (p : Int × Int), i < j → F[i]? = some p → p.1 + p.2 ≤ q.1
 | j + 1, q, hq, i, p, hij, hpi => by
  have h1 : endF F (j + 1) ≤ q.1 := Classical.byContradiction fun hc => h ⟨j + 1, q, hq, by omega⟩
  have hj : j < F.length := by have := (List.getElem?_eq_some_iff.1 hq).1; omega
  have hr : F[j]? = some F[j] := List.getElem?_eq_getElem hj
  rw [endF_succ hr] at h1
  by_cases e : i = j
  ·subst e; rw [hr] at hpi; cases hpi; exact h1
  ·have h2 := no_ov hp h j _ hr i p (by omega) hpi
   have h3 := hp _ (List.getElem_mem hj)
   omega
theorem ov_iff {F : List (Int × Int)} (hp : posF F) (hs : srtF F) : ovF F ↔ ¬ F.Pairwise apartT := by
 constructor
 ·rintro ⟨i, q, hq, hlt⟩ ha
  have hqp := hp q (List.mem_of_getElem? hq)
  match i with
  | 0 => simp [endF] at hlt; omega
  | i + 1 =>
   obtain ⟨hi1, rfl⟩ := List.getElem?_eq_some_iff.1 hq
   have hr : F[i]? = some F[i] := List.getElem?_eq_getElem (by omega)
   rw [endF_succ hr] at hlt
   have h1 := List.pairwise_iff_getElem.1 ha i (i + 1) (by omega) hi1 (by omega)
   have h2 := List.pairwise_iff_getElem.1 hs i (i + 1) (by omega) hi1 (by omega)
   have h3 := hp F[i] (List.getElem_mem _)
   unfold apartT at h1
   omega
 ·intro ha
  apply Classical.byContradiction
  intro hn
  refine ha (List.pairwise_iff_getElem.2 fun i j hi hj hij => .inl ?_)
  exact no_ov hp hn j _ (List.getElem?_eq_getElem hj) i _ hij (List.getElem?_eq_getElem hi)
theorem gap_facts {F : List (Int × Int)} {g : Int} (hp : posF F) (hs : srtF F) (hg : gapR F g) : 0 ≤ g ∧ freeT F g ∨ ovF F := by
 by_cases hov : ovF F
 ·exact .inr hov
 ·left
  obtain ⟨k, hk, rfl, h1, h2⟩ := hg
  have h0 : 0 ≤ endF F k := by
   match k with
   | 0 => exact Int.le_refl _
   | k + 1 =>
    have hr : F[k]? = some F[k] := List.getElem?_eq_getElem (by omega)
    rw [endF_succ hr]
    have := hp F[k] (List.getElem_mem _)
    omega
  refine ⟨h0, fun p hpm hb => ?_⟩
  obtain ⟨j, hj⟩ := List.mem_iff_getElem?.1 hpm
  unfold hasB at hb
  by_cases hjk : j < k
  ·match k, hk with
   | k + 1, hk =>
    have hr : F[k]? = some F[k] := List.getElem?_eq_getElem (by omega)
    rw [endF_succ hr] at hb
    by_cases e : j = k
    ·subst e; rw [hr] at hj; cases hj; omega
    ·have := no_ov hp hov k _ hr j p (by omega) hj
     have := hp F[k] (List.getElem_mem _)
     omega
  ·rcases h2 with h2 | ⟨q, hq, hlt⟩
   ·have := (List.getElem?_eq_some_iff.1 hj).1; omega
   ·by_cases e : j = k
    ·subst e; rw [hq] at hj; cases hj; omega
    ·obtain ⟨hj1, rfl⟩ := List.getElem?_eq_some_iff.1 hj
     obtain ⟨hk1, rfl⟩ := List.getElem?_eq_some_iff.1 hq
     have := List.pairwise_iff_getElem.1 hs k j hk1 hj1 (by omega)
     omega
theorem gap_below {F : List (Int × Int)} : ∀ (k : Nat), k ≤ F.length → (∀ j p, j < k → F[j]? = some p → p.1 ≤ endF F j) → ∀ x, 0 ≤ x → x < endF F k → ∃ p ∈ F, hasB p x
 | 0, _, _, x, h0, h1 => by simp [endF] at h1; omega
 | k + 1, hk, h, x, h0, h1 => by
  have hr : F[k]? = some F[k] := List.getElem?_eq_getElem (by omega)
  rw [endF_succ hr] at h1
  by_cases hx : F[k].1 ≤ x
  ·exact ⟨F[k], List.getElem_mem _, hx, h1⟩
  ·have h2 := h k _ (by omega) hr
   exact gap_below k (by omega) (fun j p hj hp => h j p (by omega) hp) x h0 (by omega)
theorem gap_least {F : List (Int × Int)} {g N : Int} (hp : posF F) (hs : srtF F) (hn : ¬ ovF F) (hg : gapR F g) (hN : g < N) : leastT N F g := by
 obtain ⟨h0, hf⟩ := (gap_facts hp hs hg).resolve_right hn
 obtain ⟨k, hk, rfl, h1, h2⟩ := hg
 exact ⟨h0, hN, hf, fun x hx hxg hfx => by
  obtain ⟨p, hpm, hb⟩ := gap_below k hk h1 x hx hxg
  exact hfx p hpm hb⟩
theorem gap_covers {F : List (Int × Int)} {g N : Int} (hg : gapR F g) (hN : N ≤ g) : coverT 0 N F := fun x h0 hx => by
 obtain ⟨k, hk, rfl, h1, h2⟩ := hg
 exact gap_below k hk h1 x h0 (by omega)
theorem endF_bd {F : List (Int × Int)} {n : Int} (hp : posF F) (hn : ∀ p ∈ F, p.1 + p.2 ≤ n) (h0 : 0 ≤ n) : ∀ k, 0 ≤ endF F k ∧ endF F k ≤ n
 | 0 => ⟨Int.le_refl _, h0⟩
 | k + 1 => by
  cases h : F[k]? with
  | none =>
   have e : endF F (k + 1) = 0 := by simp [endF, h]
   rw [e]; exact ⟨Int.le_refl _, h0⟩
  | some p =>
   have h1 := hp p (List.mem_of_getElem? h)
   have h2 := hn p (List.mem_of_getElem? h)
   rw [endF_succ h]
   omega
structure AscT (o n : Int) (Cs : List CV) (Ts : List TV) : Prop where
 perm : Ts.Perm (tvOf Cs)
 srt : Ts.Pairwise leT
 ok : okLen o n
 single : ∀ (i : Nat) (x : CV), Cs[i]? = some x → singleV o n x = 0
section
variable {o n : Int} {Cs : List CV} {Ts : List TV}
theorem AscT.len (h : AscT o n Cs Ts) : Ts.length = Cs.length := by rw [h.perm.length_eq, tvA_len]
theorem AscT.num (h : AscT o n Cs Ts) {t : TV} (ht : t ∈ Ts) : 0 ≤ t.o ∧ 1 ≤ t.l ∧ t.o + t.l ≤ n ∧ n ≤ 4611686018427387903 ∧ t.x < Cs.length := by
 obtain ⟨j, c, hj, rfl⟩ := tvA_of (h.perm.mem_iff.1 ht)
 obtain ⟨h1, h2, h3, _⟩ := single_vld (h.single j c hj)
 have h4 := h.ok
 have h5 := (List.getElem?_eq_some_iff.1 hj).1
 unfold vld at h1
 unfold okLen at h4
 dsimp only
 omega
theorem AscT.nums (h : AscT o n Cs Ts) (hm : Cs.length ≤ 1000000000) : ∀ t ∈ Ts, (-9223372036854775808 ≤ t.o ∧ t.o ≤ 9223372036854775807) ∧ (-9223372036854775808 ≤ t.l ∧ t.l ≤ 9223372036854775807) ∧ t.x ≤ 9223372036854775807 := fun t ht => by
 have := h.num ht; omega
theorem AscT.n0 (h : AscT o n Cs Ts) : 0 ≤ n ∧ n ≤ 4611686018427387903 := by have := h.ok; unfold okLen at this; omega
theorem AscT.pos (h : AscT o n Cs Ts) (i : Int) : posF (upF Ts i) := fun p hp => by
 obtain ⟨t, ht, rfl⟩ := List.mem_map.1 hp
 have := h.num (List.mem_filter.1 ht).1
 unfold pr; dsimp only; omega
theorem AscT.ends (h : AscT o n Cs Ts) (i : Int) : ∀ p ∈ upF Ts i, p.1 + p.2 ≤ n := fun p hp => by
 obtain ⟨t, ht, rfl⟩ := List.mem_map.1 hp
 have := h.num (List.mem_filter.1 ht).1
 unfold pr; dsimp only; omega
theorem AscT.srtd (h : AscT o n Cs Ts) (i : Int) : srtF (upF Ts i) := by
 unfold srtF upF
 rw [List.pairwise_map]
 exact h.srt.sublist List.filter_sublist
theorem AscT.upPerm (h : AscT o n Cs Ts) (i : Nat) : (upF Ts (i : Int)).Perm ((Cs.take (i + 1)).map tg) := by
 unfold upF
 have h1 := (h.perm.filter (upT (i : Int))).map pr
 have h2 := filter_tvA 0 Cs i
 rw [Nat.zero_add] at h2
 rw [h2, tvA_pr] at h1
 exact h1
theorem bad2_iff (h1 : ∀ (i : Nat) (x : CV), Cs[i]? = some x → singleV o n x = 0) (i : Nat) : (∃ i', i' ≤ i ∧ bad2 Cs i') ↔ ¬ ((Cs.take (i + 1)).map tg).Pairwise apartT := by
 have pos : ∀ {j : Nat} {x : CV}, Cs[j]? = some x → 1 ≤ (tg x).2 := fun hx => (single_vld (h1 _ _ hx)).2.1
 constructor
 ·rintro ⟨i', hi, x, j, y, hx, hj, hy, hm⟩ hp
  have hx' : ((Cs.take (i + 1)).map tg)[i']? = some (tg x) := by rw [List.getElem?_map, List.getElem?_take, if_pos (by omega), hx]; rfl
  have hy' : ((Cs.take (i + 1)).map tg)[j]? = some (tg y) := by rw [List.getElem?_map, List.getElem?_take, if_pos (by omega), hy]; rfl
  obtain ⟨a1, a2⟩ := List.getElem?_eq_some_iff.1 hx'
  obtain ⟨b1, b2⟩ := List.getElem?_eq_some_iff.1 hy'
  have := List.pairwise_iff_getElem.1 hp j i' b1 a1 hj
  rw [a2, b2] at this
  exact (meets_apart (pos hx) (pos hy)).2 this.symm hm
 ·intro hn
  apply Classical.byContradiction
  intro hno
  refine hn (List.pairwise_iff_getElem.2 fun j i' hj hi' hlt => ?_)
  simp only [List.length_map, List.length_take] at hj hi'
  simp only [List.getElem_map, List.getElem_take]
  have hx : Cs[i']? = some Cs[i'] := List.getElem?_eq_getElem (by omega)
  have hy : Cs[j]? = some Cs[j] := List.getElem?_eq_getElem (by omega)
  exact ((meets_apart (pos hx) (pos hy)).1 fun hm => hno ⟨i', by omega, _, j, _, hx, hlt, hy, hm⟩).symm
theorem AscT.ov (h : AscT o n Cs Ts) (i : Nat) : ovF (upF Ts (i : Int)) ↔ ∃ i', i' ≤ i ∧ bad2 Cs i' := by
 rw [ov_iff (h.pos _) (h.srtd _), bad2_iff h.single]
 have hp := h.upPerm i
 constructor
 ·exact fun h1 h2 => h1 (h2.perm hp.symm apartT.symm)
 ·exact fun h1 h2 => h1 (h2.perm hp apartT.symm)
theorem AscT.mono (h : AscT o n Cs Ts) {a b : Nat} (hab : a ≤ b) (ha : ovF (upF Ts (a : Int))) : ovF (upF Ts (b : Int)) := by
 rw [h.ov] at ha ⊢
 obtain ⟨i', h1, h2⟩ := ha
 exact ⟨i', by omega, h2⟩
theorem AscT.over (h : AscT o n Cs Ts) {k : Nat} (hk : ovF (upF Ts (k : Int))) (hb : ∀ j : Nat, j < k → ¬ ovF (upF Ts (j : Int))) : faultI o n Cs = (4, (k : Int)) := by
 obtain ⟨i', hi, hbad⟩ := (h.ov k).1 hk
 have e : i' = k := by
  apply Classical.byContradiction
  intro hne
  exact hb i' (by omega) ((h.ov i').2 ⟨i', Nat.le_refl _, hbad⟩)
 subst e
 obtain ⟨x, j, y, hx, hj, hy, hm⟩ := hbad
 exact faultI_over h.ok h.single hx hj hy hm fun q hq hbq => hb q hq ((h.ov q).2 ⟨q, Nat.le_refl _, hbq⟩)
theorem AscT.noBad (h : AscT o n Cs Ts) {m : Nat} (hm : Cs.length = m) (hb : ∀ j : Nat, j < m → ¬ ovF (upF Ts (j : Int))) : ∀ i, ¬ bad2 Cs i :=
 bad2_all (m := m) (by omega) fun i' hi' hbad => hb i' hi' ((h.ov i').2 ⟨i', Nat.le_refl _, hbad⟩)
theorem AscT.all (h : AscT o n Cs Ts) {m : Nat} (hm : Cs.length = m) : (upF Ts (m : Int)).Perm (Cs.map tg) := by
 have := h.upPerm m
 rwa [List.take_of_length_le (by omega)] at this
theorem AscT.noOv (h : AscT o n Cs Ts) {m : Nat} (hm : Cs.length = m) (hb : ∀ j : Nat, j < m → ¬ ovF (upF Ts (j : Int))) : ¬ ovF (upF Ts (m : Int)) := fun hov => by
 obtain ⟨i', _, hbad⟩ := (h.ov m).1 hov
 exact h.noBad hm hb i' hbad
theorem AscT.gap (h : AscT o n Cs Ts) {m : Nat} {g : Int} (hm : Cs.length = m) (hb : ∀ j : Nat, j < m → ¬ ovF (upF Ts (j : Int))) (hg : gapR (upF Ts (m : Int)) g) (hN : g < n) : faultI o n Cs = (3, g) := by
 have hl := gap_least (h.pos _) (h.srtd _) (h.noOv hm hb) hg hN
 have hp := h.all hm
 have hl2 : leastT n (Cs.map tg) g := ⟨hl.1, hl.2.1, hl.2.2.1.perm hp, fun x hx hxg hf => hl.2.2.2 x hx hxg (hf.perm hp.symm)⟩
 rw [faultI_gap h.ok h.single (h.noBad hm hb), gapI_is hl2, if_pos hl.1]
theorem AscT.none (h : AscT o n Cs Ts) {m : Nat} {g : Int} (hm : Cs.length = m) (hb : ∀ j : Nat, j < m → ¬ ovF (upF Ts (j : Int))) (hg : gapR (upF Ts (m : Int)) g) (hN : ¬ g < n) : faultI o n Cs = (0, 0) := by
 have hc := (gap_covers (N := n) hg (by omega)).perm (h.all hm)
 rw [faultI_gap h.ok h.single (h.noBad hm hb), gapI_no hc, if_neg (by omega)]
end
def cntT (Ts : List TV) (i : Int) (k : Nat) : Nat := ((Ts.take k).filter (upT i)).length
theorem cntT_yes {Ts : List TV} {i : Int} {k : Nat} {t : TV} (ht : Ts[k]? = some t) (h : (t.x : Int) ≤ i) : cntT Ts i (k + 1) = cntT Ts i k + 1 ∧ (upF Ts i)[cntT Ts i k]? = some (pr t) := by
 have hb : upT i t = true := by unfold upT; simpa using h
 have hk := (List.getElem?_eq_some_iff.1 ht).1
 constructor
 ·unfold cntT
  rw [List.take_add_one, ht, Option.toList_some, List.filter_append]
  simp [hb]
 ·unfold upF cntT
  have e : Ts.filter (upT i) = (Ts.take k).filter (upT i) ++ (t :: (Ts.drop (k + 1)).filter (upT i)) := by
   conv => lhs; rw [← List.take_append_drop k Ts]
   rw [List.filter_append, List.drop_eq_getElem_cons hk, List.filter_cons]
   have : Ts[k] = t := (List.getElem?_eq_some_iff.1 ht).2
   rw [this, if_pos hb]
  rw [List.getElem?_map, e, List.getElem?_append_right (Nat.le_refl _), Nat.sub_self]
  rfl
theorem cntT_no {Ts : List TV} {i : Int} {k : Nat} {t : TV} (ht : Ts[k]? = some t) (h : ¬ (t.x : Int) ≤ i) : cntT Ts i (k + 1) = cntT Ts i k := by
 have hb : upT i t = false := by unfold upT; simpa using h
 unfold cntT
 rw [List.take_add_one, ht, Option.toList_some, List.filter_append]
 simp [hb]
theorem cntT_all {Ts : List TV} {i : Int} {m : Nat} (hm : Ts.length = m) : cntT Ts i m = (upF Ts i).length := by
 unfold cntT upF
 rw [List.take_of_length_le (by omega), List.length_map]
theorem cntT_lt {Ts : List TV} {i : Int} {k : Nat} {t : TV} (ht : Ts[k]? = some t) (h : (t.x : Int) ≤ i) : cntT Ts i k < (upF Ts i).length := (List.getElem?_eq_some_iff.1 (cntT_yes ht h).2).1
def RowsT (w : World) (b off : Nat) (Ts : List TV) : Prop := ∀ (i : Nat) (x : TV), Ts[i]? = some x → ∀ j u, (cellsT x)[j]? = some u → w.cell? ⟨b, off + 3 * i + j, none⟩ = some u
theorem lies_rowsT {w : World} {g t tot : Nat} {Ts : List TV} (h : Ent.lies ⟨g, t, flatT Ts, tot⟩ w) : RowsT w g 0 Ts := fun i x hx j u hu => by
 have := h.cell (o := 3 * i + j) (flatT_get hx hu)
 rw [show 0 + 3 * i + j = 3 * i + j by omega]
 exact this
theorem RowsT.of_block {w w' : World} {b off : Nat} {Ts : List TV} (h : RowsT w b off Ts) (hb : w'.heap[b]? = w.heap[b]?) : RowsT w' b off Ts := fun i x hx j u hu => (World.cell?_of_block (w := w) hb).trans (h i x hx j u hu)
/-
 The iterator over targets: what it has captured, what a round of it leaves.
-/
theorem TE.retC1 {P : Program} {n : Sz} {w0 : World} {L : List (Nat × Value)} {H : List Ent} {fn : Func} {R : Ending → World → Prop} {i g off : Nat} {t : TypeId} {v : Value} {ex : Exit} (hres : fn.results = #[.cell i t]) (hag : (isAgg t).run P = fun w => .ok false w)
  (hx : look L i = some (.pointer (some ⟨g, off, none⟩))) (hc : At w0 H ⟨g, off, none⟩ v) (h : ∀ w, St w0 H w → R (.returned v) w) (hex : ex = .ret ∨ ex = .normal) (hds : n.ds = [] := by rfl) : TE (bodyPost P fn R) ex n w0 L H := fun a w hf hs => by
 have h1 : (a.tmps.getD i undef) = .pointer (some ⟨g, off, none⟩) := by simp [Array.getD_eq_getD_getElem?, hf.2.2 i _ hx]
 have key : a.defers = [] ∧ ∃ v, (results fn a.tmps).run P w = .ok v w ∧ R (.returned v) w := by
  refine ⟨hf.1.trans hds, v, ?_, h w hs⟩
  simp only [results, hres]
  simp [Sem.run_bind, loadVar, hag]
  simp only [Array.getD_eq_getD_getElem?] at h1
  simp [h1, asAddr, load, Sem.run, hc w hs]
 rcases hex with rfl | rfl
 ·exact key
 ·exact key
structure CapT (w : World) (b1 b2 g m : Nat) (Ts : List TV) (q : Int) : Prop where
 s : w.cell? ⟨b1, 0, none⟩ = some (.slice (some ⟨g, 0, none⟩) m m)
 x : w.cell? ⟨b2, 0, none⟩ = some (.int .i64 q)
 r : RowsT w g 0 Ts
 l : Ts.length = m
 h1 : b1 < w.heap.size
 h2 : b2 < w.heap.size
 h3 : g < w.heap.size
def capK (b1 b2 g : Nat) (k : Nat) : Prop := k = b1 ∨ k = b2 ∨ k = g
section
variable {P : Program} {w0 v w w' W : World} {b1 b2 g m : Nat} {Ts : List TV} {q : Int} {H : List Ent}
theorem CapT.lt (h : CapT w b1 b2 g m Ts q) {k : Nat} (hk : capK b1 b2 g k) : k < w.heap.size := by
 rcases hk with rfl | rfl | rfl
 ·exact h.h1
 ·exact h.h2
 ·exact h.h3
theorem CapT.row (h : CapT w b1 b2 g m Ts q) {k : Nat} {x : TV} (hx : Ts[k]? = some x) {j : Nat} {u : Value} (hu : (cellsT x)[j]? = some u) : w.cell? ⟨g, 3 * k + j, none⟩ = some u := by
 have := h.r k x hx j u hu
 rw [Nat.zero_add] at this; exact this
theorem CapT.keep (h : CapT w b1 b2 g m Ts q) (hk : ∀ k, capK b1 b2 g k → w'.heap[k]? = w.heap[k]?) (hsz : w.heap.size ≤ w'.heap.size) : CapT w' b1 b2 g m Ts q :=
 ⟨(World.cell?_of_block (w := w) (hk b1 (.inl rfl))).trans h.s, (World.cell?_of_block (w := w) (hk b2 (.inr (.inl rfl)))).trans h.x, h.r.of_block (hk g (.inr (.inr rfl))), h.l, Nat.lt_of_lt_of_le h.h1 hsz, Nat.lt_of_lt_of_le h.h2 hsz, Nat.lt_of_lt_of_le h.h3 hsz⟩
theorem CapT.keepL (h : CapT w b1 b2 g m Ts q) (hk : ∀ k, capK b1 b2 g k → w'.heap[k]? = w.heap[k]?) (hl : ∀ k, capK b1 b2 g k → k < w'.heap.size) : CapT w' b1 b2 g m Ts q :=
 ⟨(World.cell?_of_block (w := w) (hk b1 (.inl rfl))).trans h.s, (World.cell?_of_block (w := w) (hk b2 (.inr (.inl rfl)))).trans h.x, h.r.of_block (hk g (.inr (.inr rfl))), h.l, hl _ (.inl rfl), hl _ (.inr (.inl rfl)), hl _ (.inr (.inr rfl))⟩
theorem CapT.at_ (h : CapT w0 b1 b2 g m Ts q) (hs : St w0 H w) (hne : ∀ b, b < w0.heap.size → ∀ e ∈ H, e.g ≠ b) : CapT w b1 b2 g m Ts q :=
 h.keep (fun k hk => hs.old k (h.lt hk) (hne k (h.lt hk))) hs.size
theorem St.beside0 {lo : Nat} (h : St v H w) (hn : ∀ e ∈ H, v.heap.size ≤ e.g) : Beside lo (lo + 0) v w :=
 ⟨h.os, h.tape, h.output, h.size, fun k hk _ => h.old k hk (fun e he => by have := hn e he; omega)⟩
def eP (F : List (Int × Int)) (i : Nat) : Int × Int := F.getD i (0, 0)
theorem eP_of {F : List (Int × Int)} {i : Nat} {p : Int × Int} (h : F[i]? = some p) : eP F i = p := by unfold eP; rw [List.getD_eq_getElem?_getD, h]; rfl
theorem eP_at {F : List (Int × Int)} {i : Nat} (h : i < F.length) : F[i]? = some (eP F i) := by
 have h1 : F[i]? = some F[i] := List.getElem?_eq_getElem h
 rw [eP_of h1]; exact h1
def encP (F : List (Int × Int)) (i : Nat) : Value := .agg #[.int .i64 (eP F i).1, .int .i64 (eP F i).2]
theorem up_yield {l : Nat} {J Jx : Nat → World → Prop} {F : List (Int × Int)} {N cn : Nat} {p : Int × Int}
  (hJ : ∀ s A B, J s A → Beside W.heap.size (W.heap.size + 0) A B → J s B)
  (hY : ∀ i W1, i < N → J i W1 → W.heap.size + 0 ≤ W1.heap.size → YieldAt Fence.wide (2 - 1) P l #[encP F i] W1 fun e W' =>
   (e = .returned (.bool true) ∧ J (i + 1) W' ∧ Holds (fun k => (W.heap.size ≤ k ∧ k < W.heap.size + 0) ∨ capK b1 b2 g k) W1 W' ∧ W.heap.size + 0 ≤ W'.heap.size) ∨ (e = .returned (.bool false) ∧ Jx (i + 1) W'))
  (hN : cn < N) (hp : F[cn]? = some p) (hj : J cn v) (hc : CapT v b1 b2 g m Ts q) (hsz : W.heap.size ≤ v.heap.size) (hs : St v H w) (hn : ∀ e ∈ H, v.heap.size ≤ e.g) :
  YieldAt Fence.wide 1 P l #[.agg #[.int .i64 p.1, .int .i64 p.2]] w fun e w' => (e = .returned (.bool true) ∧ (J (cn + 1) w' ∧ CapT w' b1 b2 g m Ts q ∧ W.heap.size ≤ w'.heap.size)) ∨ (e = .returned (.bool false) ∧ Jx (cn + 1) w') := by
 have hb := St.beside0 (lo := W.heap.size) hs hn
 have hsw := hs.size
 obtain ⟨fn, tmps, assign, body, h1, h2⟩ := hY cn w hN (hJ _ _ _ hj hb) (by omega)
 have he : encP F cn = .agg #[.int .i64 p.1, .int .i64 p.2] := by unfold encP; rw [eP_of hp]
 rw [he] at h1
 have hcw : CapT w b1 b2 g m Ts q := hc.keep (fun k hk => hs.old k (hc.lt hk) (fun e he => by have := hn e he; have := hc.lt hk; omega)) hsw
 refine ⟨fn, tmps, assign, body, h1, h2.mono ?_⟩
 rintro e w' (⟨he, hj', hk, hz⟩ | ⟨he, hx⟩)
 ·exact .inl ⟨he, hj', hcw.keepL (fun k hk' => hk k (.inr hk') (hcw.lt hk')) (fun k hk' => hk.lt (.inr hk') (hcw.lt hk')), by omega⟩
 ·exact .inr ⟨he, hx⟩
theorem lies_call {e : Ent} (h : e.lies w) (hW : St w [] W) : e.lies W := h.of_block (hW.old _ h.lt (by simp))
theorem capT_of {t1 t2 : TypeId} (h1 : Ent.lies ⟨b1, t1, [.slice (some ⟨g, 0, none⟩) m m], 1⟩ w) (h2 : Ent.lies ⟨b2, t2, [.int .i64 q], 1⟩ w) (hr : RowsT w g 0 Ts) (hl : Ts.length = m) (hg : g < w.heap.size) : CapT w b1 b2 g m Ts q :=
 ⟨h1.cell rfl, h2.cell rfl, hr, hl, h1.lt, h2.lt, hg⟩
theorem nov_succ {F : List (Int × Int)} {i : Nat} {p : Int × Int} (h : ∀ j r, j < i → F[j]? = some r → endF F j ≤ r.1) (hp : F[i]? = some p) (hn : ¬ p.1 < endF F i) : ∀ j r, j < i + 1 → F[j]? = some r → endF F j ≤ r.1 := fun j r hj hr => by
 by_cases e : j = i
 ·subst e; rw [hp] at hr; cases hr; omega
 ·exact h j r (by omega) hr
theorem ngap_succ {F : List (Int × Int)} {i : Nat} {p : Int × Int} (h : ∀ j r, j < i → F[j]? = some r → r.1 ≤ endF F j) (hp : F[i]? = some p) (hn : ¬ endF F i < p.1) : ∀ j r, j < i + 1 → F[j]? = some r → r.1 ≤ endF F j := fun j r hj hr => by
 by_cases e : j = i
 ·subst e; rw [hp] at hr; cases hr; omega
 ·exact h j r (by omega) hr
theorem nov_end {F : List (Int × Int)} (h : ∀ j r, j < F.length → F[j]? = some r → endF F j ≤ r.1) : ¬ ovF F := by
 rintro ⟨i, p, hp, hlt⟩
 have := h i p (List.getElem?_eq_some_iff.1 hp).1 hp
 omega
noncomputable def lowI (p : Nat → Prop) (m : Nat) : Nat := match firstF (fun i => i < m ∧ p i) with
 | some i => i
 | none => m
theorem lowI_spec (p : Nat → Prop) (m : Nat) : (lowI p m < m ∧ p (lowI p m) ∨ lowI p m = m) ∧ ∀ j, j < lowI p m → j < m → ¬ p j := by
 unfold lowI
 cases h : firstF (fun i => i < m ∧ p i) with
 | some i =>
  have ⟨h1, h2⟩ := firstF_spec h
  exact ⟨.inl h1, fun j hj hjm hp => h2 j hj ⟨hjm, hp⟩⟩
 | none => exact ⟨.inr rfl, fun j hj hjm hp => firstF_nope h j ⟨hjm, hp⟩⟩
theorem lowI_is {p : Nat → Prop} {m k : Nat} (hk : k ≤ m) (h1 : ∀ j, j < k → ¬ p j) (h2 : k = m ∨ p k) : lowI p m = k := by
 obtain ⟨a, b⟩ := lowI_spec p m
 have c1 : ¬ k < lowI p m := fun hlt => by
  rcases h2 with h2 | h2
  ·rcases a with a | a <;> omega
  ·rcases a with a | a
   ·exact b k hlt (by omega) h2
   ·exact b k hlt (by omega) h2
 have c2 : ¬ lowI p m < k := fun hlt => by
  rcases a with a | a
  ·exact h1 _ hlt a.2
  ·omega
 omega
end
/-
 Contracts of Clone, Grow and Concat.
-/
theorem enters116 : Enters Tryz.prog 116 := ⟨_, Tryz.func116, by kernel_rfl, by kernel_rfl⟩
theorem enters97 : Enters Tryz.prog 97 := ⟨_, Tryz.func97, by kernel_rfl, by kernel_rfl⟩
instance : Sli Tryz.prog 65 22 := ⟨Tryz.underlying65⟩
theorem bclone_c (M : List Int) (ad : Addr) (m c : Nat) (w : World) (hsM : Src w (some ad) m .u8 M) (hmc : m ≤ c) (hm : m ≤ 140737488355328) : Calls Tryz.prog 97 #[.slice (some ad) m c] w fun e w' => ∃ g c', e = .returned (.slice (some ⟨g, 0, none⟩) m c') ∧ w.heap.size ≤ g ∧ m ≤ c' ∧ c' ≤ maxLen ∧ St w [⟨g, 5, (M).map (int .u8), c'⟩] w' := by
 refine qM (args := [.slice (some ad) m c]) Tryz.func97 rfl Tryz.ntmps97 (by simp) ?_
 refine qC [0] ?_
 iterate 9 refine gx ?_
 refine qB (qA rfl) rfl (Gets.sliceNil (A := some ad) rfl Tryz.underlying22 rfl rfl) ?_
 iterate 2 refine gx ?_
 refine qa rfl ?_
 iterate 4 refine gx ?_
 refine TL.emptySlice (qA rfl) rfl rfl Tryz.underlying22 size5 (fun g1 hg1 => ?_)
 refine gx ?_
 refine TL.appendOwn (H := []) (He := [⟨g1, 5, ([] : List Int).map (int .u8), 0⟩]) (qA rfl) rfl rfl Tryz.underlying22 mk5 rfl rfl rfl (W := []) (B := M) (.inr ⟨g1, 0, rfl, rfl, hg1, Nat.le_refl _, by unfold maxLen; omega⟩) (fun w hs => hsM.at_ hs (fun b hb => qU qE (qD (by show g1 ≠ b; omega) qE))) (by simp only [List.length_nil]; omega) (by simp only [List.length_nil]; omega) (fun vo Ho ho hne => ?_)
 rw [List.nil_append] at ho
 obtain ⟨gs, cs, rfl, rfl, hgs, hcs, hms⟩ := own_some ho (hne (by intro h; cases h))
 have hls := hsM.1
 rw [hls] at hcs ⊢
 iterate 4 refine gx ?_
 exact qK rfl rfl (fun w hs => ⟨gs, cs, rfl, hgs, hcs, hms, hs⟩)
theorem bclone_nil (m c : Nat) (w : World) : Calls Tryz.prog 97 #[.slice none m c] w fun e w' => e = .returned (.slice none 0 0) ∧ St w [] w' := by
 refine qM (args := [.slice none m c]) Tryz.func97 rfl Tryz.ntmps97 (by simp) ?_
 refine qC [0] ?_
 iterate 9 refine gx ?_
 refine qB (qA rfl) rfl (Gets.sliceNil (A := none) rfl Tryz.underlying22 rfl rfl) ?_
 iterate 2 refine gx ?_
 refine qd rfl ?_
 iterate 7 refine gx ?_
 exact qK rfl rfl (fun w hs => ⟨rfl, hs⟩)
theorem clone_nil (k t f l : Int) (m c : Nat) (w : World) : Calls Tryz.prog 68 #[.agg ([int .i64 k, int .i64 t, int .i64 f, int .i64 l, slice none m c]).toArray] w fun e w' => e = .returned (.agg ([int .i64 k, int .i64 t, int .i64 f, int .i64 l, slice none 0 0]).toArray) ∧ St w [] w' := by
 refine qM (args := [.agg ([int .i64 k, int .i64 t, int .i64 f, int .i64 l, slice none m c]).toArray]) Tryz.func68 rfl Tryz.ntmps68 (by simp) ?_
 refine qC [0] ?_
 iterate 2 refine gx ?_
 refine qe (fun g1 hg1 => ?_)
 refine qZ (fun g2 hg2 => ?_)
 iterate 6 refine gx ?_
 refine qL (qA rfl) rfl enters97 rfl rfl (v := .slice none 0 0) (fun w hs => bclone_nil m c w) ?_
 refine gx ?_
 refine qz (qA rfl) rfl rfl size22 rfl rfl rfl (i := 1) rfl rfl (by simp [] <;> omega) (cs' := [int .i64 k, int .i64 t, int .i64 f, int .i64 l, slice none 0 0]) (rfl) (H' := [⟨g2, 54, [int .i64 0, int .i64 0, int .i64 0, int .i64 0, slice none 0 0], 5⟩, ⟨g1, 54, [int .i64 k, int .i64 t, int .i64 f, int .i64 l, slice none 0 0], 5⟩]) rfl ?_
 iterate 9 refine gx ?_
 exact ql rfl agg54 size54 rfl (vs := [int .i64 k, int .i64 t, int .i64 f, int .i64 l, slice none 0 0]) rfl (qX (i := 0) (ent := ⟨g2, 54, [int .i64 k, int .i64 t, int .i64 f, int .i64 l, slice none 0 0], 5⟩) rfl rfl rfl) (fun w hs => ⟨rfl, ((hs.drop (by assumption)).drop (by assumption))⟩)
theorem clone_some (k t f l : Int) (ad : Addr) (m c : Nat) (B : List Int) (w : World) (hsA : Src w (some ad) m .u8 B) (hmc : m ≤ c) (hm : m ≤ 140737488355328) : Calls Tryz.prog 68 #[.agg ([int .i64 k, int .i64 t, int .i64 f, int .i64 l, slice (some ad) m c]).toArray] w fun e w' => ∃ g c', e = .returned (.agg ([int .i64 k, int .i64 t, int .i64 f, int .i64 l, slice (some ⟨g, 0, none⟩) m c']).toArray) ∧ w.heap.size ≤ g ∧ m ≤ c' ∧ c' ≤ maxLen ∧ St w [⟨g, 5, (B).map (int .u8), c'⟩] w' := by
 refine qM (args := [.agg ([int .i64 k, int .i64 t, int .i64 f, int .i64 l, slice (some ad) m c]).toArray]) Tryz.func68 rfl Tryz.ntmps68 (by simp) ?_
 refine qC [0] ?_
 iterate 2 refine gx ?_
 refine qe (fun g1 hg1 => ?_)
 refine qZ (fun g2 hg2 => ?_)
 iterate 6 refine gx ?_
 refine qg (ι := Nat × Nat) (V := fun yk => .slice (some ⟨yk.1, 0, none⟩) m yk.2) (R := fun yk => (m ≤ yk.2 ∧ yk.2 ≤ maxLen) ∧ w.heap.size ≤ (⟨yk.1, 5, B.map (int .u8), yk.2⟩ : Ent).g) (H' := fun yk => [⟨yk.1, 5, B.map (int .u8), yk.2⟩, ⟨g2, 54, [int .i64 0, int .i64 0, int .i64 0, int .i64 0, slice none 0 0], 5⟩, ⟨g1, 54, [int .i64 k, int .i64 t, int .i64 f, int .i64 l, slice (some ad) m c], 5⟩]) (qA rfl) rfl enters97 rfl rfl (fun w hs => (show Calls Tryz.prog 97 #[.slice (some ad) m c] w (fun e w' => ∃ yk : Nat × Nat, e = .returned (.slice (some ⟨yk.1, 0, none⟩) m yk.2) ∧ (m ≤ yk.2 ∧ yk.2 ≤ maxLen) ∧ w.heap.size ≤ (⟨yk.1, 5, B.map (int .u8), yk.2⟩ : Ent).g ∧ St w [⟨yk.1, 5, B.map (int .u8), yk.2⟩] w') from (bclone_c B ad m c w (hsA.at_ hs (fun b hb => (qD (by show g2 ≠ b; omega) (qD (by show g1 ≠ b; omega) qE)))) (by omega) (by omega)).mono fun e w' ⟨gv, cv, he, hgv, hcv, hmv, hw⟩ => ⟨(gv, cv), he, ⟨hcv, hmv⟩, hgv, hw⟩).mono fun e w' ⟨x, he, hR, hE, hw⟩ => ⟨x, he, ⟨hR, Nat.le_trans hs.size hE⟩, hs.made hw hE⟩) (fun yk ⟨hRk, hEk⟩ => ?_)
 obtain ⟨gk, ck⟩ := yk
 dsimp only at hRk hEk ⊢
 obtain ⟨hck, hmk⟩ := hRk
 unfold maxLen at hmk
 refine gx ?_
 refine qz (qA rfl) rfl rfl size22 rfl rfl rfl (i := 2) rfl rfl (by simp [] <;> omega) (cs' := [int .i64 k, int .i64 t, int .i64 f, int .i64 l, slice (some ⟨gk, 0, none⟩) m ck]) (rfl) (H' := [⟨gk, 5, B.map (int .u8), ck⟩, ⟨g2, 54, [int .i64 0, int .i64 0, int .i64 0, int .i64 0, slice none 0 0], 5⟩, ⟨g1, 54, [int .i64 k, int .i64 t, int .i64 f, int .i64 l, slice (some ⟨gk, 0, none⟩) m ck], 5⟩]) rfl ?_
 iterate 9 refine gx ?_
 exact ql rfl agg54 size54 rfl (vs := [int .i64 k, int .i64 t, int .i64 f, int .i64 l, slice (some ⟨gk, 0, none⟩) m ck]) rfl (qX (i := 1) (ent := ⟨g2, 54, [int .i64 k, int .i64 t, int .i64 f, int .i64 l, slice (some ⟨gk, 0, none⟩) m ck], 5⟩) rfl rfl rfl) (fun w hs => ⟨gk, ck, rfl, hEk, hck, by unfold maxLen; omega, ((hs.erase (i := 2) rfl (by assumption)).erase (i := 1) rfl (by assumption))⟩)
theorem grow_c (n : Nat) (h0 : 0 < n) (hn : n ≤ 140737488355328) (w : World) : Calls Tryz.prog 116 #[.slice none 0 0, .int .i64 (n : Int)] w fun e w' => ∃ g c', e = .returned (.slice (some ⟨g, 0, none⟩) 0 c') ∧ w.heap.size ≤ g ∧ 0 ≤ c' ∧ c' ≤ maxLen ∧ St w [⟨g, 5, [], c'⟩] w' := by
 refine qM (args := [.slice none 0 0, .int .i64 (n : Int)]) Tryz.func116 rfl Tryz.ntmps116 (by simp) ?_
 refine qC [0, 1] ?_
 iterate 12 refine gx ?_
 refine qP rfl (fun hq0 => ?_) (fun hq0 => ?_)
 ·exfalso; omega
 ·iterate 7 refine gx ?_
  refine qB (qA rfl) rfl (Gets.capSlice rfl Tryz.underlying22 rfl) ?_
  iterate 2 refine gx ?_
  refine qB (qA rfl) rfl (qy rfl rfl rfl (r := 0) (w64 (by omega) (by omega))) ?_
  refine qB (qA rfl) rfl (qy rfl rfl rfl (r := (n : Int)) (w64 (by omega) (by omega))) ?_
  iterate 3 refine gx ?_
  refine qC [0, 1, 4] ?_
  iterate 6 refine gx ?_
  refine qP rfl (fun hq1 => ?_) (fun hq1 => ?_)
  ·iterate 3 refine gx ?_
   refine qB (qA rfl) rfl (Gets.capSlice rfl Tryz.underlying22 rfl) ?_
   refine qB (qA rfl) rfl (zH rfl Tryz.underlying22 size5 rfl bnd.dflt (bnd.at_ (l := 0) rfl rfl) (by omega) (by omega) (cutA_zero _ _ _) (ln := 0) (cp := 0) (by omega) (by omega)) ?_
   refine gx ?_
   refine TL.growNil (nn := n) (qA rfl) rfl rfl Tryz.underlying22 Tryz.underlying3 mk5 rfl rfl rfl (by omega) (by omega) (by omega) (fun gr cr hgr hcr hmr => ?_)
   iterate 2 refine gx ?_
   refine qB (qA rfl) rfl (zH rfl Tryz.underlying22 size5 rfl bnd.dflt (bnd.at_ (l := 0) rfl rfl) (by omega) (by omega) (cutA_zero _ _ _) (ln := 0) (cp := cr) (by omega) (by omega)) ?_
   iterate 3 refine gx ?_
   refine qC [0, 4] ?_
   iterate 7 refine gx ?_
   exact qK rfl rfl (fun w hs => ⟨gr, cr, rfl, hgr, by omega, hmr, hs⟩)
  ·exfalso; omega
theorem grow_0 (w : World) : Calls Tryz.prog 116 #[.slice none 0 0, .int .i64 0] w fun e w' => e = .returned (.slice none 0 0) ∧ St w [] w' := by
 refine qM (args := [.slice none 0 0, .int .i64 0]) Tryz.func116 rfl Tryz.ntmps116 (by simp) ?_
 refine qC [0, 1] ?_
 iterate 12 refine gx ?_
 refine qP rfl (fun hq0 => ?_) (fun hq0 => ?_)
 ·exfalso; omega
 ·iterate 7 refine gx ?_
  refine qB (qA rfl) rfl (Gets.capSlice rfl Tryz.underlying22 rfl) ?_
  iterate 2 refine gx ?_
  refine qB (qA rfl) rfl (qy rfl rfl rfl (r := 0) (w64 (by omega) (by omega))) ?_
  refine qB (qA rfl) rfl (qy rfl rfl rfl (r := 0) (w64 (by omega) (by omega))) ?_
  iterate 3 refine gx ?_
  refine qC [0, 1, 4] ?_
  iterate 6 refine gx ?_
  refine qP rfl (fun hq1 => ?_) (fun hq1 => ?_)
  ·exfalso; omega
  ·iterate 9 refine gx ?_
   exact qK rfl rfl (fun w hs => ⟨rfl, hs⟩)
structure WPq where
 k : Nat
 v : Value
 He : List Ent
def totN (Ps : List (List Int)) (i : Nat) : Nat := (Ps.take i).flatten.length
theorem totN_succ {Ps : List (List Int)} {i : Nat} (h : i < Ps.length) : totN Ps (i + 1) = totN Ps i + (Ps.getD i []).length := by
 unfold totN
 have hf := flat_succ (i := i) (Ps := Ps) h []
 simp only [List.nil_append] at hf
 rw [hf, List.length_append]
theorem totN_le (Ps : List (List Int)) (i : Nat) : totN Ps i ≤ Ps.flatten.length := by
 unfold totN
 have := congrArg (fun l => (List.flatten l).length) (List.take_append_drop i Ps)
 simp only [List.flatten_append, List.length_append] at this
 omega
theorem totN_all {Ps : List (List Int)} {m : Nat} (h : Ps.length ≤ m) : totN Ps m = Ps.flatten.length := by
 unfold totN; rw [List.take_of_length_le h]
theorem totN_0 (Ps : List (List Int)) : totN Ps 0 = 0 := rfl
theorem concat_s (Ps : List (List Int)) (A : Option Addr) (m c : Nat) (w : World) (hP : PartsO w A m Ps) (hmc : m ≤ c) (hcm : c ≤ 9223372036854775807) (hS : 0 < Ps.flatten.length) (hT : Ps.flatten.length ≤ 140737488355328) : Calls Tryz.prog 104 #[.slice A m c] w fun e w' => ∃ v He, e = .returned v ∧ Own w.heap.size 5 .u8 v Ps.flatten He ∧ St w He w' := by
 refine qM (args := [.slice A m c]) Tryz.func104 rfl Tryz.ntmps104 (by simp) ?_
 refine qC [0] ?_
 iterate 19 refine gx ?_
 refine qm (ι := Nat) (fun i => [(0, .slice A m c), (3, .int .i64 (totN Ps i : Int)), (9, .slice A m c), (10, .int .i64 (m : Int)), (11, .int .i64 (i : Int))]) (fun i => []) (fun i => m - i) (fun i => i ≤ m) 0 (Nat.zero_le _) (qR (i := 0) rfl rfl (by first | omega | (dsimp only; omega) | rfl) (by first | omega | (dsimp only; omega) | rfl) (qF (i := 3) rfl (by rw [totN_0]; rfl) (qR (i := 9) rfl rfl (by first | omega | (dsimp only; omega) | rfl) (by first | omega | (dsimp only; omega) | rfl) (qF (i := 10) rfl (by first | omega | rfl) (qF (i := 11) rfl (by first | omega | rfl) (qO)))))) (fun w h => h) (fun i hC0 => ?_)
 iterate 6 refine gx ?_
 refine qP rfl (fun hq0 => ?_) (fun hq0 => ?_)
 ·obtain ⟨b, off, hE, hb, hcells⟩ := hP.2.resolve_left (by omega)
  subst hE
  obtain ⟨Ai, mi, ci, hci, hSi, hmi⟩ := hcells i (by omega)
  have hoff : off + i = (off + i) := rfl
  have hPl := hP.1
  have hSl := hSi.1
  have htl := totN_succ (Ps := Ps) (i := i) (by omega)
  have htm := totN_le Ps (i + 1)
  iterate 6 refine gx ?_
  refine qB (qA rfl) rfl (qb rfl Tryz.underlying65 size22 rfl rfl (i := i) (by omega) (by omega) (off' := (off + i)) (by omega)) ?_
  refine qB (qA rfl) rfl (qN rfl agg22 rfl (qk (hoff ▸ hci) hb qE)) ?_
  iterate 3 refine gx ?_
  refine qC [0, 3, 5, 9, 10, 11] ?_
  iterate 5 refine gx ?_
  refine qB (qA rfl) rfl (qQ rfl rfl rfl (r := ((totN Ps i : Int) + (mi : Int))) (w64 (by omega) (by omega))) ?_
  iterate 3 refine gx ?_
  refine qC [0, 3, 9, 10, 11] ?_
  iterate 6 refine gx ?_
  refine qP rfl (fun hq1 => ?_) (fun hq1 => ?_)
  ·exfalso; omega
  ·iterate 4 refine gx ?_
   refine qB (qA rfl) rfl (qQ rfl rfl rfl (r := ((i : Int) + 1)) (w64 (by omega) (by omega))) ?_
   iterate 2 refine gx ?_
   exact qc (i + 1) (by omega) (by omega) (qR (i := 0) rfl rfl (by first | omega | (dsimp only; omega) | rfl) (by first | omega | (dsimp only; omega) | rfl) (qF (i := 3) rfl (by first | omega | rfl) (qR (i := 9) rfl (by first | rfl | (congr 2; omega)) (by first | omega | (dsimp only; omega) | rfl) (by first | omega | (dsimp only; omega) | rfl) (qF (i := 10) rfl (by first | omega | rfl) (qF (i := 11) rfl (by first | omega | rfl) (qO)))))) (fun w h => h)
 ·have hall := totN_all (Ps := Ps) (m := m) (by have := hP.1; omega)
  obtain rfl : m = i := by omega
  iterate 8 refine gx ?_
  refine qg (ι := Nat × Nat) (V := fun yg => .slice (some ⟨yg.1, 0, none⟩) 0 yg.2) (R := fun yg => (yg.2 ≤ maxLen) ∧ w.heap.size ≤ (⟨yg.1, 5, [], yg.2⟩ : Ent).g) (H' := fun yg => [⟨yg.1, 5, [], yg.2⟩]) (qA rfl) rfl enters116 rfl rfl (fun w hs => (show Calls Tryz.prog 116 #[.slice none 0 0, .int .i64 (totN Ps m : Int)] w (fun e w' => ∃ yg : Nat × Nat, e = .returned (.slice (some ⟨yg.1, 0, none⟩) 0 yg.2) ∧ (yg.2 ≤ maxLen) ∧ w.heap.size ≤ (⟨yg.1, 5, [], yg.2⟩ : Ent).g ∧ St w [⟨yg.1, 5, [], yg.2⟩] w') from (grow_c ((totN Ps m)) (by omega) (by omega) w).mono fun e w' ⟨gv, cv, he, hgv, hcv, hmv, hw⟩ => ⟨(gv, cv), he, hmv, hgv, hw⟩).mono fun e w' ⟨x, he, hR, hE, hw⟩ => ⟨x, he, ⟨hR, Nat.le_trans hs.size hE⟩, hs.made hw hE⟩) (fun yg ⟨hRg, hEg⟩ => ?_)
  obtain ⟨gg, cg⟩ := yg
  dsimp only at hRg hEg ⊢
  iterate 3 refine gx ?_
  refine qC [0, 6] ?_
  iterate 9 refine gx ?_
  refine qm (ι := WPq) (fun x => [(6, x.v), (25, .slice A m c), (26, .int .i64 (m : Int)), (27, .int .i64 (x.k : Int))]) (fun x => [] ++ x.He) (fun x => m - x.k) (fun x => Own w.heap.size 5 .u8 x.v (Ps.take x.k).flatten x.He ∧ x.k ≤ m) (⟨0, .slice (some ⟨gg, 0, none⟩) 0 cg, [⟨gg, 5, [], cg⟩]⟩ : WPq) ⟨.inr ⟨gg, cg, rfl, rfl, hEg, Nat.zero_le _, hRg⟩, Nat.zero_le _⟩ (qJ (i := 6) rfl (qR (i := 25) rfl rfl (by first | omega | (dsimp only; omega) | rfl) (by first | omega | (dsimp only; omega) | rfl) (qF (i := 26) rfl (by first | omega | rfl) (qF (i := 27) rfl (by first | omega | rfl) (qO))))) (fun w h => h) (fun x hC1 => ?_)
  obtain ⟨k, v, He⟩ := x
  obtain ⟨hown, hC2⟩ := hC1
  dsimp only at hown hC2 ⊢
  have hPl := hP.1
  iterate 6 refine gx ?_
  refine qP rfl (fun hq2 => ?_) (fun hq2 => ?_)
  ·obtain ⟨b, off, hE, hb, hcells⟩ := hP.2.resolve_left (by omega)
   subst hE
   obtain ⟨Ai, mi, ci, hci, hSi, hmi⟩ := hcells k (by omega)
   have hoff : off + k = (off + k) := rfl
   have hPl := hP.1
   have hSl := hSi.1
   have htl := totN_succ (Ps := Ps) (i := k) (by omega)
   have htm := totN_le Ps (k + 1)
   iterate 6 refine gx ?_
   refine qB (qA rfl) rfl (qb rfl Tryz.underlying65 size22 rfl rfl (i := k) (by omega) (by omega) (off' := (off + k)) (by omega)) ?_
   refine qB (qA rfl) rfl (qN rfl agg22 rfl (qk (hoff ▸ hci) hb (qU qE (hown.ne hb)))) ?_
   iterate 6 refine gx ?_
   have hlt : (Ps.take k).flatten.length = totN Ps k := rfl
   refine TL.appendOwn (H := []) (qA rfl) rfl rfl Tryz.underlying22 mk5 rfl rfl rfl (W := (Ps.take k).flatten) (B := Ps.getD k []) hown (fun w hs => hSi.at_ hs (fun b hb => qU qE (hown.ne hb))) (by omega) (by omega) (fun vo Ho ho hne => ?_)
   iterate 4 refine gx ?_
   refine qC [6, 25, 26, 27] ?_
   refine gx ?_
   refine qB (qA rfl) rfl (qQ rfl rfl rfl (r := ((k : Int) + 1)) (w64 (by omega) (by omega))) ?_
   iterate 2 refine gx ?_
   exact qc (⟨k + 1, vo, Ho⟩ : WPq) (by show m - (k + 1) < m - k; omega) ⟨by show Own _ _ _ vo (Ps.take (k + 1)).flatten Ho; have := flat_succ (i := k) (Ps := Ps) (by omega) []; simp only [List.nil_append] at this; rw [this]; exact ho, by show k + 1 ≤ m; omega⟩ (qJ (i := 6) rfl (qR (i := 25) rfl (by first | rfl | (congr 2; omega)) (by first | omega | (dsimp only; omega) | rfl) (by first | omega | (dsimp only; omega) | rfl) (qF (i := 26) rfl (by first | omega | rfl) (qF (i := 27) rfl (by first | omega | rfl) (qO))))) (fun w h => h)
  ·have htk : Ps.take k = Ps := List.take_of_length_le (by omega)
   rw [htk] at hown
   iterate 12 refine gx ?_
   exact qK rfl rfl (fun w hs => ⟨_, _, rfl, hown, hs⟩)
theorem concat_0 (Ps : List (List Int)) (A : Option Addr) (m c : Nat) (w : World) (hP : PartsO w A m Ps) (hmc : m ≤ c) (hcm : c ≤ 9223372036854775807) (hS : Ps.flatten.length = 0) (hT : Ps.flatten.length ≤ 140737488355328) : Calls Tryz.prog 104 #[.slice A m c] w fun e w' => ∃ v He, e = .returned v ∧ Own w.heap.size 5 .u8 v Ps.flatten He ∧ St w He w' := by
 refine qM (args := [.slice A m c]) Tryz.func104 rfl Tryz.ntmps104 (by simp) ?_
 refine qC [0] ?_
 iterate 19 refine gx ?_
 refine qm (ι := Nat) (fun i => [(0, .slice A m c), (3, .int .i64 (totN Ps i : Int)), (9, .slice A m c), (10, .int .i64 (m : Int)), (11, .int .i64 (i : Int))]) (fun i => []) (fun i => m - i) (fun i => i ≤ m) 0 (Nat.zero_le _) (qR (i := 0) rfl rfl (by first | omega | (dsimp only; omega) | rfl) (by first | omega | (dsimp only; omega) | rfl) (qF (i := 3) rfl (by rw [totN_0]; rfl) (qR (i := 9) rfl rfl (by first | omega | (dsimp only; omega) | rfl) (by first | omega | (dsimp only; omega) | rfl) (qF (i := 10) rfl (by first | omega | rfl) (qF (i := 11) rfl (by first | omega | rfl) (qO)))))) (fun w h => h) (fun i hC0 => ?_)
 iterate 6 refine gx ?_
 refine qP rfl (fun hq0 => ?_) (fun hq0 => ?_)
 ·obtain ⟨b, off, hE, hb, hcells⟩ := hP.2.resolve_left (by omega)
  subst hE
  obtain ⟨Ai, mi, ci, hci, hSi, hmi⟩ := hcells i (by omega)
  have hoff : off + i = (off + i) := rfl
  have hPl := hP.1
  have hSl := hSi.1
  have htl := totN_succ (Ps := Ps) (i := i) (by omega)
  have htm := totN_le Ps (i + 1)
  iterate 6 refine gx ?_
  refine qB (qA rfl) rfl (qb rfl Tryz.underlying65 size22 rfl rfl (i := i) (by omega) (by omega) (off' := (off + i)) (by omega)) ?_
  refine qB (qA rfl) rfl (qN rfl agg22 rfl (qk (hoff ▸ hci) hb qE)) ?_
  iterate 3 refine gx ?_
  refine qC [0, 3, 5, 9, 10, 11] ?_
  iterate 5 refine gx ?_
  refine qB (qA rfl) rfl (qQ rfl rfl rfl (r := ((totN Ps i : Int) + (mi : Int))) (w64 (by omega) (by omega))) ?_
  iterate 3 refine gx ?_
  refine qC [0, 3, 9, 10, 11] ?_
  iterate 6 refine gx ?_
  refine qP rfl (fun hq1 => ?_) (fun hq1 => ?_)
  ·exfalso; omega
  ·iterate 4 refine gx ?_
   refine qB (qA rfl) rfl (qQ rfl rfl rfl (r := ((i : Int) + 1)) (w64 (by omega) (by omega))) ?_
   iterate 2 refine gx ?_
   exact qc (i + 1) (by omega) (by omega) (qR (i := 0) rfl rfl (by first | omega | (dsimp only; omega) | rfl) (by first | omega | (dsimp only; omega) | rfl) (qF (i := 3) rfl (by first | omega | rfl) (qR (i := 9) rfl (by first | rfl | (congr 2; omega)) (by first | omega | (dsimp only; omega) | rfl) (by first | omega | (dsimp only; omega) | rfl) (qF (i := 10) rfl (by first | omega | rfl) (qF (i := 11) rfl (by first | omega | rfl) (qO)))))) (fun w h => h)
 ·have hall := totN_all (Ps := Ps) (m := m) (by have := hP.1; omega)
  obtain rfl : m = i := by omega
  iterate 8 refine gx ?_
  refine qL (qA rfl) rfl enters116 rfl rfl (v := .slice none 0 0) (fun w hs => by have h := grow_0 w; rw [show (0 : Int) = ((totN Ps m : Nat) : Int) by omega] at h; exact h) ?_
  iterate 3 refine gx ?_
  refine qC [0, 6] ?_
  iterate 9 refine gx ?_
  refine qm (ι := WPq) (fun x => [(6, x.v), (25, .slice A m c), (26, .int .i64 (m : Int)), (27, .int .i64 (x.k : Int))]) (fun x => [] ++ x.He) (fun x => m - x.k) (fun x => Own w.heap.size 5 .u8 x.v (Ps.take x.k).flatten x.He ∧ x.k ≤ m) (⟨0, .slice none 0 0, []⟩ : WPq) ⟨Own.nil _ _ _, Nat.zero_le _⟩ (qJ (i := 6) rfl (qR (i := 25) rfl rfl (by first | omega | (dsimp only; omega) | rfl) (by first | omega | (dsimp only; omega) | rfl) (qF (i := 26) rfl (by first | omega | rfl) (qF (i := 27) rfl (by first | omega | rfl) (qO))))) (fun w h => h) (fun x hC1 => ?_)
  obtain ⟨k, v, He⟩ := x
  obtain ⟨hown, hC2⟩ := hC1
  dsimp only at hown hC2 ⊢
  have hPl := hP.1
  iterate 6 refine gx ?_
  refine qP rfl (fun hq2 => ?_) (fun hq2 => ?_)
  ·obtain ⟨b, off, hE, hb, hcells⟩ := hP.2.resolve_left (by omega)
   subst hE
   obtain ⟨Ai, mi, ci, hci, hSi, hmi⟩ := hcells k (by omega)
   have hoff : off + k = (off + k) := rfl
   have hPl := hP.1
   have hSl := hSi.1
   have htl := totN_succ (Ps := Ps) (i := k) (by omega)
   have htm := totN_le Ps (k + 1)
   iterate 6 refine gx ?_
   refine qB (qA rfl) rfl (qb rfl Tryz.underlying65 size22 rfl rfl (i := k) (by omega) (by omega) (off' := (off + k)) (by omega)) ?_
   refine qB (qA rfl) rfl (qN rfl agg22 rfl (qk (hoff ▸ hci) hb (qU qE (hown.ne hb)))) ?_
   iterate 6 refine gx ?_
   have hlt : (Ps.take k).flatten.length = totN Ps k := rfl
   refine TL.appendOwn (H := []) (qA rfl) rfl rfl Tryz.underlying22 mk5 rfl rfl rfl (W := (Ps.take k).flatten) (B := Ps.getD k []) hown (fun w hs => hSi.at_ hs (fun b hb => qU qE (hown.ne hb))) (by omega) (by omega) (fun vo Ho ho hne => ?_)
   iterate 4 refine gx ?_
   refine qC [6, 25, 26, 27] ?_
   refine gx ?_
   refine qB (qA rfl) rfl (qQ rfl rfl rfl (r := ((k : Int) + 1)) (w64 (by omega) (by omega))) ?_
   iterate 2 refine gx ?_
   exact qc (⟨k + 1, vo, Ho⟩ : WPq) (by show m - (k + 1) < m - k; omega) ⟨by show Own _ _ _ vo (Ps.take (k + 1)).flatten Ho; have := flat_succ (i := k) (Ps := Ps) (by omega) []; simp only [List.nil_append] at this; rw [this]; exact ho, by show k + 1 ≤ m; omega⟩ (qJ (i := 6) rfl (qR (i := 25) rfl (by first | rfl | (congr 2; omega)) (by first | omega | (dsimp only; omega) | rfl) (by first | omega | (dsimp only; omega) | rfl) (qF (i := 26) rfl (by first | omega | rfl) (qF (i := 27) rfl (by first | omega | rfl) (qO))))) (fun w h => h)
  ·have htk : Ps.take k = Ps := List.take_of_length_le (by omega)
   rw [htk] at hown
   iterate 12 refine gx ?_
   exact qK rfl rfl (fun w hs => ⟨_, _, rfl, hown, hs⟩)
theorem concat_c (Ps : List (List Int)) (A : Option Addr) (m c : Nat) (w : World) (hP : PartsO w A m Ps) (hmc : m ≤ c) (hcm : c ≤ 9223372036854775807) (hT : Ps.flatten.length ≤ 140737488355328) : Calls Tryz.prog 104 #[.slice A m c] w fun e w' => ∃ v He, e = .returned v ∧ Own w.heap.size 5 .u8 v Ps.flatten He ∧ St w He w' := by
 by_cases h : Ps.flatten.length = 0
 ·exact concat_0 Ps A m c w hP hmc hcm h hT
 ·exact concat_s Ps A m c w hP hmc hcm (by omega) hT
/-
 Contracts of Literal and Part.
-/
theorem enters104 : Enters Tryz.prog 104 := ⟨_, Tryz.func104, by kernel_rfl, by kernel_rfl⟩
theorem literal_c (t : Int) (Ps : List (List Int)) (A : Option Addr) (m c : Nat) (w : World) (hP : PartsO w A m Ps) (hmc : m ≤ c) (hcm : c ≤ 9223372036854775807) (hT : Ps.flatten.length ≤ 140737488355328) : Calls Tryz.prog 76 #[.int .i64 t, .slice A m c] w fun e w' => ∃ A' c' He, e = .returned (.agg ([int .i64 2, int .i64 t, int .i64 0, int .i64 0, slice A' Ps.flatten.length ((c'))]).toArray) ∧ Own w.heap.size 5 .u8 (.slice A' Ps.flatten.length c') Ps.flatten He ∧ St w He w' := by
 refine qM (args := [.int .i64 t, .slice A m c]) Tryz.func76 rfl Tryz.ntmps76 (by simp) ?_
 refine qC [0, 1] ?_
 iterate 2 refine gx ?_
 refine qZ (fun g1 hg1 => ?_)
 iterate 6 refine gx ?_
 refine qg (ι := Value × List Ent) (V := fun yl => yl.1) (R := fun yl => Own w.heap.size 5 .u8 yl.1 Ps.flatten yl.2) (H' := fun yl => [⟨g1, 54, [int .i64 0, int .i64 0, int .i64 0, int .i64 0, slice none 0 0], 5⟩] ++ yl.2) (qA rfl) rfl enters104 rfl rfl (fun w hs => (concat_c Ps A m c w (hP.at_ hs (fun b hb => (qD (by show g1 ≠ b; omega) qE))) hmc hcm hT).mono fun e w' ⟨v, He, he, ho, hw⟩ => ⟨(v, He), he, own_mono ho hs.size, st_call hs hw ho.new⟩) (fun yl hOl => ?_)
 obtain ⟨vl, Hl⟩ := yl
 dsimp only at hOl ⊢
 obtain ⟨Al, cl, hvl, hcl, hdl⟩ := hOl.form
 subst hvl
 refine qB (qA rfl) rfl (qr rfl (vs := [(0, int .i64 2), (1, int .i64 t), (4, slice Al Ps.flatten.length cl)]) rfl (fun w => by first | rfl | kernel_rfl) (v := .agg ([int .i64 2, int .i64 t, int .i64 0, int .i64 0, slice Al Ps.flatten.length cl]).toArray)) ?_
 refine zI (qA rfl) rfl rfl size54 rfl (vs := [int .i64 2, int .i64 t, int .i64 0, int .i64 0, slice Al Ps.flatten.length cl]) rfl (by simp []) (by simp [Value.oneCell']) (i := 0) (ent := ⟨g1, 54, [int .i64 0, int .i64 0, int .i64 0, int .i64 0, slice none 0 0], 5⟩) rfl rfl (by simp []) (H' := [⟨g1, 54, [int .i64 2, int .i64 t, int .i64 0, int .i64 0, slice Al Ps.flatten.length cl], 5⟩] ++ Hl) rfl ?_
 iterate 3 refine gx ?_
 exact ql rfl agg54 size54 rfl (vs := [int .i64 2, int .i64 t, int .i64 0, int .i64 0, slice Al Ps.flatten.length cl]) rfl (qX (i := 0) (ent := ⟨g1, 54, [int .i64 2, int .i64 t, int .i64 0, int .i64 0, slice Al Ps.flatten.length cl], 5⟩) rfl rfl rfl) (fun w hs => ⟨Al, cl, Hl, rfl, hOl, St.drop (H := Hl) hs (by assumption)⟩)
theorem literal1_c (t : Int) (B : List Int) (A : Option Addr) (n c gp tt tot : Nat) (w : World) (hl : Ent.lies ⟨gp, tt, [slice A n c], tot⟩ w) (hsB : Src w A n .u8 B) (hnc : n ≤ c) (h0 : 0 < n) (hn : n ≤ 140737488355328) :
  Calls Tryz.prog 76 #[.int .i64 t, .slice (some ⟨gp, 0, none⟩) 1 1] w fun e w' => ∃ g c', e = .returned (.agg ([int .i64 2, int .i64 t, int .i64 0, int .i64 0, slice (some ⟨g, 0, none⟩) n c']).toArray) ∧ w.heap.size ≤ g ∧ n ≤ c' ∧ c' ≤ maxLen ∧ St w [⟨g, 5, B.map (int .u8), c'⟩] w' := by
 have hfl : [B].flatten = B := by simp
 have h := literal_c t [B] (some ⟨gp, 0, none⟩) 1 1 w (parts_one hl hsB hnc) (Nat.le_refl _) (by omega) (by rw [hfl, hsB.1]; omega)
 rw [hfl, hsB.1] at h
 refine h.mono fun e w' ⟨A', c', He, he, ho, hw⟩ => ?_
 obtain ⟨g, c2, h1, h2, h3, h4, h5⟩ := own_some ho (by intro h; cases h; omega)
 rw [hsB.1] at h1 h4
 cases h1
 subst h2
 exact ⟨g, c', he, h3, h4, h5, hw⟩
/-
 The reference of layer 5: Few, single, Find.
-/
theorem agg24 : (isAgg 24).run Tryz.prog = fun w => .ok false w := isAgg_no Tryz.underlying24 rfl
theorem enters50 : Enters Tryz.prog 50 := ⟨_, Tryz.func50, by kernel_rfl, by kernel_rfl⟩
theorem enters82 : Enters Tryz.prog 82 := ⟨_, Tryz.func82, by kernel_rfl, by kernel_rfl⟩
theorem enters83 : Enters Tryz.prog 83 := ⟨_, Tryz.func83, by kernel_rfl, by kernel_rfl⟩
theorem size24 : (Tryz.prog.info? 24).map (·.size) = some 1 := by kernel_rfl
instance : AgN Tryz.prog 24 := ⟨agg24⟩
instance : Fld Tryz.prog 26 0 0 := ⟨⟨_, _, _, Tryz.underlying26, rfl, size3, rfl⟩⟩
instance : Fld Tryz.prog 26 1 1 := ⟨⟨_, _, _, Tryz.underlying26, rfl, size3, rfl⟩⟩
instance : Fld Tryz.prog 26 4 66 := ⟨⟨_, _, _, Tryz.underlying26, rfl, size24, rfl⟩⟩
instance : Sli Tryz.prog 24 54 := ⟨Tryz.underlying24⟩
theorem rlen_c (k t f l : Int) (A : Option Addr) (m c : Nat) (w : World) : Calls Tryz.prog 84 #[.agg ([int .i64 k, int .i64 t, int .i64 f, int .i64 l, slice A m c]).toArray] w fun e w' => e = .returned (.int .i64 (lenV k l m)) ∧ St w [] w' := by
 unfold lenV
 by_cases h1 : k = 1
 ·subst h1; rw [if_pos rfl]; exact rlen1 t f l A m c w
 ·rw [if_neg h1]; exact rlen2 k t f l A m c h1 w
theorem rtarget_c (k t f l : Int) (A : Option Addr) (m c : Nat) (w : World) : Calls Tryz.prog 54 #[.agg ([int .i64 k, int .i64 t, int .i64 f, int .i64 l, slice A m c]).toArray] w fun e w' => e = .returned (.agg ([int .i64 t, int .i64 (lenV k l m)]).toArray) ∧ St w [] w' := by
 unfold lenV
 by_cases h1 : k = 1
 ·subst h1; rw [if_pos rfl]; exact rtarget1 t f l A m c w
 ·rw [if_neg h1]; exact rtarget2 k t f l A m c h1 w
abbrev dV (o n : Int) (X Y : List Int) (s : Value) : List Value := [int .i64 o, int .i64 n] ++ (X.map (int .u8) ++ (Y.map (int .u8) ++ ([s])))
theorem few_c (o n : Int) (H1 H2 : List Int) (hH1 : H1.length = 32) (hH2 : H2.length = 32) (A : Option Addr) (m c : Nat) (Cs : List CV) (hml : m ≤ 9223372036854775807) (hN : NumsC Cs) (w : World) (hC : SrcC w A m Cs)  : Calls Tryz.prog 9 #[.agg (dV o n H1 H2 (slice A m c)).toArray] w fun e w' => e = .returned (.bool (decide (fewP Cs))) ∧ St w [] w' := by
 refine qM (args := [.agg (dV o n H1 H2 (slice A m c)).toArray]) Tryz.func9 rfl Tryz.ntmps9 (by simp) ?_
 refine qC [0] ?_
 iterate 2 refine gx ?_
 refine qu (qA rfl) rfl rfl rfl (cs := dV o n H1 H2 (slice A m c)) (by simp [Value.cells]) (tot := 67) (by simp [hH1, hH2]) (fun g1 hg1 => ?_)
 iterate 10 refine gx ?_
 refine qm (ι := Nat) (fun i => [(1, .pointer (some ⟨g1, 0, none⟩)), (3, .int .i64 (i : Int))]) (fun i => [⟨g1, 26, dV o n H1 H2 (slice A m c), 67⟩]) (fun i => m - i) (fun i => i ≤ m ∧ ∀ (j : Nat) (y : CV), j < i → Cs[j]? = some y → y.m ≤ 300) 0 ⟨Nat.zero_le _, fun j y h => absurd h (Nat.not_lt_zero j)⟩ (qJ (i := 1) rfl (qF (i := 3) rfl (by first | omega | rfl) (qO))) (fun w h => h) (fun i hC0 => ?_)
 obtain ⟨hC0, hC1⟩ := hC0
 iterate 10 refine gx ?_
 refine qP rfl (fun hq0 => ?_) (fun hq0 => ?_)
 ·obtain ⟨b, off, hAe, hb, hrw⟩ := hC.some_ (i := i) (by omega)
  subst hAe
  obtain ⟨x, hx⟩ := hC.get (i := i) (by omega)
  have hnx := hN i x hx
  unfold NumC at hnx
  have hlbx := lenV_bd (k := x.k) (l := x.l) (m := x.m) (by omega) (by omega)
  iterate 9 refine gx ?_
  refine qB (qA rfl) rfl (qb rfl Tryz.underlying24 size54 rfl rfl (i := i) (by omega) (by omega) (off' := (off + 5 * i)) (by omega)) ?_
  refine qB (qA rfl) rfl (Gets.fieldAddr rfl Tryz.underlying54 rfl size22 rfl (off' := (off + 5 * i + 4)) (by first | rfl | omega)) ?_
  refine qB (qA rfl) rfl (qN rfl agg22 rfl (qk (hrw i x hx 4 _ rfl) hb (qD (by show g1 ≠ b; omega) qE))) ?_
  iterate 4 refine gx ?_
  refine qC [1, 3, 18] ?_
  refine qP rfl (fun hq1 => ?_) (fun hq1 => ?_)
  ·iterate 11 refine gx ?_
   exact qK rfl rfl (fun w hs => ⟨dec_f (fun h => by have := h.1 i x hx; omega), (hs.drop (by assumption))⟩)
  ·iterate 5 refine gx ?_
   refine qB (qA rfl) rfl (qQ rfl rfl rfl (r := ((i : Int) + 1)) (w64 (by omega) (by omega))) ?_
   iterate 2 refine gx ?_
   exact qc (i + 1) (by omega) ⟨by omega, all_succ hC1 hx (by omega)⟩ (qJ (i := 1) rfl (qF (i := 3) rfl (by first | omega | rfl) (qO))) (fun w h => h)
 ·iterate 15 refine gx ?_
  exact qK rfl rfl (fun w hs => ⟨dec_iff ⟨fun h => ⟨all_of (m := m) (by have := hC.1; omega) (fun j y hj => hC1 j y (by omega)), by have := hC.1; omega⟩, fun h => by have := h.2; have := hC.1; omega⟩, (hs.drop (by assumption))⟩)
theorem single_c (o n : Int) (H1 H2 : List Int) (hH1 : H1.length = 32) (hH2 : H2.length = 32) (A : Option Addr) (m c : Nat) (Cs : List CV) (x : CV) (hn : NumC x) (w : World) : Calls Tryz.prog 52 #[.agg (dV o n H1 H2 (slice A m c)).toArray, .agg ([int .i64 x.k, int .i64 x.t, int .i64 x.f, int .i64 x.l, slice x.A x.m x.c]).toArray] w fun e w' => e = .returned (.int .i64 (singleV o n x)) ∧ St w [] w' := by
 refine qM (args := [.agg (dV o n H1 H2 (slice A m c)).toArray, .agg ([int .i64 x.k, int .i64 x.t, int .i64 x.f, int .i64 x.l, slice x.A x.m x.c]).toArray]) Tryz.func52 rfl Tryz.ntmps52 (by simp) ?_
 refine qC [0, 1] ?_
 iterate 2 refine gx ?_
 refine qu (qA rfl) rfl rfl rfl (cs := dV o n H1 H2 (slice A m c)) (by simp [Value.cells]) (tot := 67) (by simp [hH1, hH2]) (fun g1 hg1 => ?_)
 refine qe (fun g2 hg2 => ?_)
 iterate 4 refine gx ?_
 have hnx := hn
 unfold NumC at hnx
 have hlb := lenV_bd (k := x.k) (l := x.l) (m := x.m) (by omega) (by omega)
 iterate 2 refine gx ?_
 refine qL (qA rfl) rfl enters83 rfl rfl (v := .int .i64 (codeV x.k x.t x.f x.l x.m)) (fun w hs => rcheck_c x.k x.t x.f x.l x.A x.m x.c (by omega) (by omega) (by omega) (by omega) w) ?_
 iterate 10 refine gx ?_
 refine qC [2, 3, 4, 5, 9] ?_
 refine qP rfl (fun hq0 => ?_) (fun hq0 => ?_)
 ·iterate 8 refine gx ?_
  exact qK rfl rfl (fun w hs => ⟨ret_i (by unfold singleV; (repeat' split) <;> first | rfl | (exfalso; omega)), ((hs.drop (by assumption)).drop (by assumption))⟩)
 ·have hcv := codeV_facts (by omega : codeV x.k x.t x.f x.l x.m = 0)
  unfold vld at hcv
  iterate 7 refine gx ?_
  by_cases c1 : x.k = 1
  ·refine qB (qA rfl) rfl (qV (qj rfl rfl rfl) c1) ?_
   iterate 5 refine gx ?_
   refine qB (qI rfl rfl rfl) rfl (qQ rfl rfl rfl (r := (x.f + x.l)) (w64 (by omega) (by omega))) ?_
   iterate 2 refine gx ?_
   by_cases c2 : o < (x.f + x.l)
   ·refine qB (qI rfl rfl rfl) rfl (qV (zF rfl rfl rfl) c2) ?_
    iterate 3 refine gx ?_
    refine qC [2, 3, 4, 23] ?_
    refine qd rfl ?_
    iterate 7 refine gx ?_
    exact qK rfl rfl (fun w hs => ⟨ret_i (by unfold singleV; (repeat' split) <;> first | rfl | (exfalso; omega)), ((hs.drop (by assumption)).drop (by assumption))⟩)
   ·refine qB (qI rfl rfl rfl) rfl (qT (zF rfl rfl rfl) c2) ?_
    iterate 3 refine gx ?_
    refine qC [2, 3, 4, 23] ?_
    refine qa rfl ?_
    iterate 4 refine gx ?_
    refine qt (by kernel_rfl) [0, 1, 1, 1, 0, 0, 1, 0] rfl (by kernel_rfl) ?_
    iterate 3 refine gx ?_
    refine zE (qA rfl) rfl enters84 rfl rfl (v := .int .i64 (lenV x.k x.l x.m)) (fun w hs => rlen_c x.k x.t x.f x.l x.A x.m x.c w) ?_
    refine qH (qA rfl) rfl (fun _ => qQ rfl rfl rfl (r := (x.t + (lenV x.k x.l x.m))) (w64 (by omega) (by omega))) ?_
    iterate 5 refine gx ?_
    refine qC [4, 31] ?_
    refine qP rfl (fun h3 => ?_) (fun h3 => ?_)
    ·iterate 7 refine gx ?_
     exact qK rfl rfl (fun w hs => ⟨ret_i (by unfold singleV; (repeat' split) <;> first | rfl | (exfalso; omega)), ((hs.drop (by assumption)).drop (by assumption))⟩)
    ·iterate 8 refine gx ?_
     exact qK rfl rfl (fun w hs => ⟨ret_i (by unfold singleV; (repeat' split) <;> first | rfl | (exfalso; omega)), ((hs.drop (by assumption)).drop (by assumption))⟩)
  ·refine qB (qA rfl) rfl (qT (qj rfl rfl rfl) c1) ?_
   iterate 12 refine gx ?_
   refine qC [2, 3, 4, 23] ?_
   refine qa rfl ?_
   iterate 4 refine gx ?_
   refine qt (by kernel_rfl) [0, 1, 1, 1, 0, 0, 1, 0] rfl (by kernel_rfl) ?_
   iterate 3 refine gx ?_
   refine zE (qA rfl) rfl enters84 rfl rfl (v := .int .i64 (lenV x.k x.l x.m)) (fun w hs => rlen_c x.k x.t x.f x.l x.A x.m x.c w) ?_
   refine qH (qA rfl) rfl (fun _ => qQ rfl rfl rfl (r := (x.t + (lenV x.k x.l x.m))) (w64 (by omega) (by omega))) ?_
   iterate 5 refine gx ?_
   refine qC [4, 31] ?_
   refine qP rfl (fun h5 => ?_) (fun h5 => ?_)
   ·iterate 7 refine gx ?_
    exact qK rfl rfl (fun w hs => ⟨ret_i (by unfold singleV; (repeat' split) <;> first | rfl | (exfalso; omega)), ((hs.drop (by assumption)).drop (by assumption))⟩)
   ·iterate 8 refine gx ?_
    exact qK rfl rfl (fun w hs => ⟨ret_i (by unfold singleV; (repeat' split) <;> first | rfl | (exfalso; omega)), ((hs.drop (by assumption)).drop (by assumption))⟩)
theorem rHas_c (o l p : Int) (h : -9223372036854775808 ≤ o + l ∧ o + l ≤ 9223372036854775807) (w : World) : Calls Tryz.prog 82 #[.agg ([int .i64 o, int .i64 l]).toArray, .int .i64 p] w fun e w' => e = .returned (.bool (decide (hasB (o, l) p))) ∧ St w [] w' := by
 refine qM (args := [.agg ([int .i64 o, int .i64 l]).toArray, .int .i64 p]) Tryz.func82 rfl Tryz.ntmps82 (by simp) ?_
 refine qC [0, 1] ?_
 iterate 2 refine gx ?_
 refine qe (fun g1 hg1 => ?_)
 iterate 8 refine gx ?_
 by_cases c1 : o ≤ p
 ·refine qB (qA rfl) rfl (qV (Gets.geq rfl rfl rfl) c1) ?_
  iterate 6 refine gx ?_
  refine qB (qI rfl rfl rfl) rfl (qQ rfl rfl rfl (r := (o + l)) (w64 (by omega) (by omega))) ?_
  iterate 6 refine gx ?_
  exact qK rfl rfl (fun w hs => ⟨dec_iff (by unfold hasB; dsimp only; omega), (hs.drop (by assumption))⟩)
 ·refine qB (qA rfl) rfl (qT (Gets.geq rfl rfl rfl) c1) ?_
  iterate 13 refine gx ?_
  exact qK rfl rfl (fun w hs => ⟨dec_f (by unfold hasB; dsimp only; omega), (hs.drop (by assumption))⟩)
theorem rhas_c (x : CV) (p : Int) (h : -9223372036854775808 ≤ x.t + lenV x.k x.l x.m ∧ x.t + lenV x.k x.l x.m ≤ 9223372036854775807) (w : World) : Calls Tryz.prog 50 #[.agg ([int .i64 x.k, int .i64 x.t, int .i64 x.f, int .i64 x.l, slice x.A x.m x.c]).toArray, .int .i64 p] w fun e w' => e = .returned (.bool (decide (hasB (tg x) p))) ∧ St w [] w' := by
 refine qM (args := [.agg ([int .i64 x.k, int .i64 x.t, int .i64 x.f, int .i64 x.l, slice x.A x.m x.c]).toArray, .int .i64 p]) Tryz.func50 rfl Tryz.ntmps50 (by simp) ?_
 refine qC [0, 1] ?_
 iterate 2 refine gx ?_
 refine qe (fun g1 hg1 => ?_)
 iterate 6 refine gx ?_
 refine qL (qA rfl) rfl enters54 rfl rfl (v := .agg ([int .i64 x.t, int .i64 (lenV x.k x.l x.m)]).toArray) (fun w hs => rtarget_c x.k x.t x.f x.l x.A x.m x.c w) ?_
 refine gx ?_
 refine qL (qA rfl) rfl enters82 rfl rfl (v := .bool (decide (hasB (x.t, lenV x.k x.l x.m) p))) (fun w hs => rHas_c x.t (lenV x.k x.l x.m) p (by omega) w) ?_
 iterate 4 refine gx ?_
 exact qK rfl rfl (fun w hs => ⟨dec_iff (Iff.rfl), (hs.drop (by assumption))⟩)
theorem rfind_c (o n : Int) (H1 H2 : List Int) (hH1 : H1.length = 32) (hH2 : H2.length = 32) (A : Option Addr) (m c : Nat) (Cs : List CV) (p : Int) (hV : ∀ (i : Nat) (x : CV), Cs[i]? = some x → vld x.t (lenV x.k x.l x.m)) (hmm : m ≤ 1000000000) (hN : NumsC Cs) (w : World) (hC : SrcC w A m Cs)  : Calls Tryz.prog 31 #[.agg (dV o n H1 H2 (slice A m c)).toArray, .int .i64 p] w fun e w' => e = .returned (.int .i64 (findI Cs p)) ∧ St w [] w' := by
 refine qM (args := [.agg (dV o n H1 H2 (slice A m c)).toArray, .int .i64 p]) Tryz.func31 rfl Tryz.ntmps31 (by simp) ?_
 refine qC [0, 1] ?_
 iterate 2 refine gx ?_
 refine qu (qA rfl) rfl rfl rfl (cs := dV o n H1 H2 (slice A m c)) (by simp [Value.cells]) (tot := 67) (by simp [hH1, hH2]) (fun g1 hg1 => ?_)
 iterate 10 refine gx ?_
 refine qm (ι := Nat) (fun i => [(1, .int .i64 p), (2, .pointer (some ⟨g1, 0, none⟩)), (5, .int .i64 (i : Int))]) (fun i => [⟨g1, 26, dV o n H1 H2 (slice A m c), 67⟩]) (fun i => m - i) (fun i => i ≤ m ∧ ∀ (j : Nat) (y : CV), j < i → Cs[j]? = some y → ¬ hasB (tg y) p) 0 ⟨Nat.zero_le _, fun j y h => absurd h (Nat.not_lt_zero j)⟩ (qF (i := 1) rfl (by first | rfl | omega) (qJ (i := 2) rfl (qF (i := 5) rfl (by first | omega | rfl) (qO)))) (fun w h => h) (fun i hC0 => ?_)
 obtain ⟨hC0, hC1⟩ := hC0
 iterate 10 refine gx ?_
 refine qP rfl (fun hq0 => ?_) (fun hq0 => ?_)
 ·obtain ⟨b, off, hAe, hb, hrw⟩ := hC.some_ (i := i) (by omega)
  subst hAe
  obtain ⟨x, hx⟩ := hC.get (i := i) (by omega)
  have hnx := hN i x hx
  unfold NumC at hnx
  have hlbx := lenV_bd (k := x.k) (l := x.l) (m := x.m) (by omega) (by omega)
  have hvx := hV i x hx
  unfold vld at hvx
  iterate 9 refine gx ?_
  refine qB (qA rfl) rfl (qb rfl Tryz.underlying24 size54 rfl rfl (i := i) (by omega) (by omega) (off' := (off + 5 * i)) (by omega)) ?_
  refine qB (qA rfl) rfl (qi rfl agg54 size54 rfl rfl (Row.old (fun jj u h => hrw i x hx jj u h) hb (qD (by show g1 ≠ b; omega) qE))) ?_
  refine gx ?_
  refine qL (qA rfl) rfl enters50 rfl rfl (v := .bool (decide (hasB (tg x) p))) (fun w hs => rhas_c x p (by omega) w) ?_
  iterate 2 refine gx ?_
  refine qC [1, 2, 5, 19] ?_
  refine qP rfl (fun hq1 => ?_) (fun hq1 => ?_)
  ·iterate 12 refine gx ?_
   exact qK rfl rfl (fun w hs => ⟨ret_i ((findI_is (.inr ⟨i, x, rfl, hx, hq1, hC1⟩)).symm), (hs.drop (by assumption))⟩)
  ·iterate 5 refine gx ?_
   refine qB (qA rfl) rfl (qQ rfl rfl rfl (r := ((i : Int) + 1)) (w64 (by omega) (by omega))) ?_
   iterate 2 refine gx ?_
   exact qc (i + 1) (by omega) ⟨by omega, all_succ hC1 hx hq1⟩ (qF (i := 1) rfl (by first | rfl | omega) (qJ (i := 2) rfl (qF (i := 5) rfl (by first | omega | rfl) (qO)))) (fun w h => h)
 ·iterate 11 refine gx ?_
  exact qK rfl rfl (fun w hs => ⟨ret_i ((findI_is (.inl ⟨rfl, all_of (m := m) (by have := hC.1; omega) (fun j y hj => hC1 j y (by omega))⟩)).symm), (hs.drop (by assumption))⟩)
/-
 The reference of layer 5: gap, Check, Valid.
-/
theorem agg26 : (isAgg 26).run Tryz.prog = fun w => .ok true w := isAgg_yes Tryz.underlying26 rfl
theorem enters31 : Enters Tryz.prog 31 := ⟨_, Tryz.func31, by kernel_rfl, by kernel_rfl⟩
theorem enters32 : Enters Tryz.prog 32 := ⟨_, Tryz.func32, by kernel_rfl, by kernel_rfl⟩
theorem enters52 : Enters Tryz.prog 52 := ⟨_, Tryz.func52, by kernel_rfl, by kernel_rfl⟩
theorem enters53 : Enters Tryz.prog 53 := ⟨_, Tryz.func53, by kernel_rfl, by kernel_rfl⟩
theorem enters55 : Enters Tryz.prog 55 := ⟨_, Tryz.func55, by kernel_rfl, by kernel_rfl⟩
theorem size26 : (Tryz.prog.info? 26).map (·.size) = some 67 := by kernel_rfl
instance : AgY Tryz.prog 26 := ⟨agg26⟩
instance : Siz Tryz.prog 26 67 := ⟨size26⟩
theorem rgap_c (o n : Int) (H1 H2 : List Int) (hH1 : H1.length = 32) (hH2 : H2.length = 32) (A : Option Addr) (m c : Nat) (Cs : List CV) (hV : ∀ (i : Nat) (x : CV), Cs[i]? = some x → vld x.t (lenV x.k x.l x.m)) (hmm : m ≤ 1000000000) (hN : NumsC Cs) (w : World) (hC : SrcC w A m Cs)  : Calls Tryz.prog 55 #[.agg (dV o n H1 H2 (slice A m c)).toArray] w fun e w' => e = .returned (.int .i64 (gapI n Cs)) ∧ St w [] w' := by
 refine qM (args := [.agg (dV o n H1 H2 (slice A m c)).toArray]) Tryz.func55 rfl Tryz.ntmps55 (by simp) ?_
 refine qC [0] ?_
 iterate 2 refine gx ?_
 refine qu (qA rfl) rfl rfl rfl (cs := dV o n H1 H2 (slice A m c)) (by simp [Value.cells]) (tot := 67) (by simp [hH1, hH2]) (fun g1 hg1 => ?_)
 iterate 15 refine gx ?_
 refine qm (ι := Nat × Int) (fun y => [(1, .pointer (some ⟨g1, 0, none⟩)), (3, .int .i64 y.2), (4, .int .i64 ((y.1 : Int) - 1))]) (fun y => [⟨g1, 26, dV o n H1 H2 (slice A m c), 67⟩]) (fun y => m + 1 - y.1) (fun y => y.1 ≤ m + 1 ∧ gapQ n Cs y.1 y.2) ((0, -1) : Nat × Int) ⟨Nat.zero_le _, gapQ_zero n Cs⟩ (qJ (i := 1) rfl (qF (i := 3) rfl rfl (qF (i := 4) rfl rfl (qO)))) (fun w h => h) (fun y hC0 => ?_)
 obtain ⟨i, q⟩ := y
 obtain ⟨hC0, hQ⟩ := hC0
 dsimp only at hC0 hQ ⊢
 iterate 10 refine gx ?_
 refine qP rfl (fun hq0 => ?_) (fun hq0 => ?_)
 ·iterate 9 refine gx ?_
  refine qC [1, 3, 4, 5] ?_
  iterate 7 refine gx ?_
  refine qP rfl (fun hq1 => ?_) (fun hq1 => ?_)
  ·obtain ⟨i1, rfl⟩ : ∃ i1, i = i1 + 1 := ⟨i - 1, by omega⟩
   obtain ⟨b, off, hAe, hb, hrw⟩ := hC.some_ (i := i1) (by omega)
   subst hAe
   obtain ⟨x, hx⟩ := hC.get (i := i1) (by omega)
   have hnx := hN i1 x hx
   unfold NumC at hnx
   have hlbx := lenV_bd (k := x.k) (l := x.l) (m := x.m) (by omega) (by omega)
   have hvx := hV i1 x hx
   unfold vld at hvx
   refine qt (by kernel_rfl) [0, 1, 0, 0, 0, 1, 0, 1, 0, 0, 1, 1, 0, 0] rfl (by kernel_rfl) ?_
   iterate 3 refine gx ?_
   refine qH (qA rfl) rfl (fun _ => qb rfl Tryz.underlying24 size54 rfl rfl (i := i1) (by omega) (by omega) (off' := (off + 5 * i1)) (by omega)) ?_
   refine qH (qA rfl) rfl (fun _ => Gets.fieldAddr rfl Tryz.underlying54 rfl size3 rfl (off' := (off + 5 * i1 + 1)) (by first | rfl | omega)) ?_
   refine qY (qA rfl) rfl (qN rfl agg3 rfl (qk (hrw i1 x hx 1 _ rfl) hb (qD (by show g1 ≠ b; omega) qE))) ?_
   iterate 3 refine gx ?_
   refine qH (qA rfl) rfl (fun _ => qb rfl Tryz.underlying24 size54 rfl rfl (i := i1) (by omega) (by omega) (off' := (off + 5 * i1)) (by omega)) ?_
   refine qY (qA rfl) rfl (qi rfl agg54 size54 rfl rfl (Row.old (fun jj u h => hrw i1 x hx jj u h) hb (qD (by show g1 ≠ b; omega) qE))) ?_
   refine zE (qA rfl) rfl enters84 rfl rfl (v := .int .i64 (lenV x.k x.l x.m)) (fun w hs => rlen_c x.k x.t x.f x.l x.A x.m x.c w) ?_
   refine qH (qA rfl) rfl (fun _ => qQ rfl rfl rfl (r := (x.t + (lenV x.k x.l x.m))) (w64 (by omega) (by omega))) ?_
   iterate 3 refine gx ?_
   refine qC [1, 3, 4, 5] ?_
   iterate 5 refine gx ?_
   by_cases u1 : (x.t + (lenV x.k x.l x.m)) < n
   ·refine qB (qA rfl) rfl (qV (qs rfl rfl rfl) u1) ?_
    iterate 3 refine gx ?_
    refine qL (qI rfl rfl rfl) rfl enters31 rfl rfl (v := .int .i64 (findI Cs (x.t + (lenV x.k x.l x.m)))) (fun w hs => rfind_c o n H1 H2 hH1 hH2 (some ⟨b, off, none⟩) m c Cs (x.t + (lenV x.k x.l x.m)) hV hmm hN w (hC.at_ hs (fun b hb => (qD (by show g1 ≠ b; omega) qE)))) ?_
    by_cases u2 : (findI Cs (x.t + (lenV x.k x.l x.m))) < 0
    ·refine qB (qI rfl rfl rfl) rfl (qV (qs rfl rfl rfl) u2) ?_
     iterate 3 refine gx ?_
     by_cases u3 : q < 0
     ·refine qB (qI rfl rfl rfl) rfl (qV (qs rfl rfl rfl) u3) ?_
      iterate 8 refine gx ?_
      refine qC [1, 3, 4, 5, 46] ?_
      refine qd rfl ?_
      iterate 8 refine gx ?_
      refine qB (qA rfl) rfl (qQ rfl rfl rfl (r := ((i1 : Int) + 1)) (w64 (by omega) (by omega))) ?_
      iterate 2 refine gx ?_
      exact qc (((i1 + 2), (x.t + (lenV x.k x.l x.m))) : Nat × Int) (by dsimp only; omega) ⟨by show (i1 + 1) + 1 ≤ m + 1; omega, gapQ_step (d := (x.t + lenV x.k x.l x.m)) hQ (by omega) (candI_succ hx) (by have hfi := findI_free (Cs := Cs) (off := (x.t + lenV x.k x.l x.m)); first | exact .inl ⟨by omega, hfi.1 (by omega), by omega, rfl⟩ | exact .inr ⟨fun h => by have h2 := hfi.2 h.2.1; have h3 := h.1; have h4 := h.2.2; omega, rfl⟩)⟩ (qJ (i := 1) rfl (qF (i := 3) rfl rfl (qF (i := 4) rfl (by dsimp only; omega) (qO)))) (fun w h => h)
     ·refine qB (qI rfl rfl rfl) rfl (qT (qs rfl rfl rfl) u3) ?_
      iterate 3 refine gx ?_
      by_cases u4 : (x.t + (lenV x.k x.l x.m)) < q
      ·refine qB (qI rfl rfl rfl) rfl (qV (qs rfl rfl rfl) u4) ?_
       iterate 4 refine gx ?_
       refine qC [1, 3, 4, 5, 46] ?_
       refine qd rfl ?_
       iterate 8 refine gx ?_
       refine qB (qA rfl) rfl (qQ rfl rfl rfl (r := ((i1 : Int) + 1)) (w64 (by omega) (by omega))) ?_
       iterate 2 refine gx ?_
       exact qc (((i1 + 2), (x.t + (lenV x.k x.l x.m))) : Nat × Int) (by dsimp only; omega) ⟨by show (i1 + 1) + 1 ≤ m + 1; omega, gapQ_step (d := (x.t + lenV x.k x.l x.m)) hQ (by omega) (candI_succ hx) (by have hfi := findI_free (Cs := Cs) (off := (x.t + lenV x.k x.l x.m)); first | exact .inl ⟨by omega, hfi.1 (by omega), by omega, rfl⟩ | exact .inr ⟨fun h => by have h2 := hfi.2 h.2.1; have h3 := h.1; have h4 := h.2.2; omega, rfl⟩)⟩ (qJ (i := 1) rfl (qF (i := 3) rfl rfl (qF (i := 4) rfl (by dsimp only; omega) (qO)))) (fun w h => h)
      ·refine qB (qI rfl rfl rfl) rfl (qT (qs rfl rfl rfl) u4) ?_
       iterate 4 refine gx ?_
       refine qC [1, 3, 4, 5, 46] ?_
       refine qa rfl ?_
       iterate 5 refine gx ?_
       refine qB (qA rfl) rfl (qQ rfl rfl rfl (r := ((i1 : Int) + 1)) (w64 (by omega) (by omega))) ?_
       iterate 2 refine gx ?_
       exact qc (((i1 + 2), q) : Nat × Int) (by dsimp only; omega) ⟨by show (i1 + 1) + 1 ≤ m + 1; omega, gapQ_step (d := (x.t + lenV x.k x.l x.m)) hQ (by omega) (candI_succ hx) (by have hfi := findI_free (Cs := Cs) (off := (x.t + lenV x.k x.l x.m)); first | exact .inl ⟨by omega, hfi.1 (by omega), by omega, rfl⟩ | exact .inr ⟨fun h => by have h2 := hfi.2 h.2.1; have h3 := h.1; have h4 := h.2.2; omega, rfl⟩)⟩ (qJ (i := 1) rfl (qF (i := 3) rfl rfl (qF (i := 4) rfl (by dsimp only; omega) (qO)))) (fun w h => h)
    ·refine qB (qI rfl rfl rfl) rfl (qT (qs rfl rfl rfl) u2) ?_
     iterate 12 refine gx ?_
     refine qC [1, 3, 4, 5, 46] ?_
     refine qa rfl ?_
     iterate 5 refine gx ?_
     refine qB (qA rfl) rfl (qQ rfl rfl rfl (r := ((i1 : Int) + 1)) (w64 (by omega) (by omega))) ?_
     iterate 2 refine gx ?_
     exact qc (((i1 + 2), q) : Nat × Int) (by dsimp only; omega) ⟨by show (i1 + 1) + 1 ≤ m + 1; omega, gapQ_step (d := (x.t + lenV x.k x.l x.m)) hQ (by omega) (candI_succ hx) (by have hfi := findI_free (Cs := Cs) (off := (x.t + lenV x.k x.l x.m)); first | exact .inl ⟨by omega, hfi.1 (by omega), by omega, rfl⟩ | exact .inr ⟨fun h => by have h2 := hfi.2 h.2.1; have h3 := h.1; have h4 := h.2.2; omega, rfl⟩)⟩ (qJ (i := 1) rfl (qF (i := 3) rfl rfl (qF (i := 4) rfl (by dsimp only; omega) (qO)))) (fun w h => h)
   ·refine qB (qA rfl) rfl (qT (qs rfl rfl rfl) u1) ?_
    iterate 17 refine gx ?_
    refine qC [1, 3, 4, 5, 46] ?_
    refine qa rfl ?_
    iterate 5 refine gx ?_
    refine qB (qA rfl) rfl (qQ rfl rfl rfl (r := ((i1 : Int) + 1)) (w64 (by omega) (by omega))) ?_
    iterate 2 refine gx ?_
    exact qc (((i1 + 2), q) : Nat × Int) (by dsimp only; omega) ⟨by show (i1 + 1) + 1 ≤ m + 1; omega, gapQ_step (d := (x.t + lenV x.k x.l x.m)) hQ (by omega) (candI_succ hx) (by have hfi := findI_free (Cs := Cs) (off := (x.t + lenV x.k x.l x.m)); first | exact .inl ⟨by omega, hfi.1 (by omega), by omega, rfl⟩ | exact .inr ⟨fun h => by have h2 := hfi.2 h.2.1; have h3 := h.1; have h4 := h.2.2; omega, rfl⟩)⟩ (qJ (i := 1) rfl (qF (i := 3) rfl rfl (qF (i := 4) rfl (by dsimp only; omega) (qO)))) (fun w h => h)
  ·obtain rfl : i = 0 := by omega
   iterate 7 refine gx ?_
   by_cases u1 : (0 : Int) < n
   ·refine qB (qA rfl) rfl (qV (qs rfl rfl rfl) u1) ?_
    iterate 3 refine gx ?_
    refine qL (qI rfl rfl rfl) rfl enters31 rfl rfl (v := .int .i64 (findI Cs 0)) (fun w hs => rfind_c o n H1 H2 hH1 hH2 A m c Cs 0 hV hmm hN w (hC.at_ hs (fun b hb => (qD (by show g1 ≠ b; omega) qE)))) ?_
    by_cases u2 : (findI Cs 0) < 0
    ·refine qB (qI rfl rfl rfl) rfl (qV (qs rfl rfl rfl) u2) ?_
     iterate 3 refine gx ?_
     by_cases u3 : q < 0
     ·refine qB (qI rfl rfl rfl) rfl (qV (qs rfl rfl rfl) u3) ?_
      iterate 8 refine gx ?_
      refine qC [1, 3, 4, 5, 46] ?_
      refine qd rfl ?_
      iterate 8 refine gx ?_
      refine qB (qA rfl) rfl (qQ rfl rfl rfl (r := 0) (w64 (by omega) (by omega))) ?_
      iterate 2 refine gx ?_
      exact qc ((1, 0) : Nat × Int) (by dsimp only; omega) ⟨by show 0 + 1 ≤ m + 1; omega, gapQ_step (d := 0) hQ (by omega) (candI_zero) (by have hfi := findI_free (Cs := Cs) (off := 0); first | exact .inl ⟨by omega, hfi.1 (by omega), by omega, rfl⟩ | exact .inr ⟨fun h => by have h2 := hfi.2 h.2.1; have h3 := h.1; have h4 := h.2.2; omega, rfl⟩)⟩ (qJ (i := 1) rfl (qF (i := 3) rfl rfl (qF (i := 4) rfl (by dsimp only; omega) (qO)))) (fun w h => h)
     ·refine qB (qI rfl rfl rfl) rfl (qT (qs rfl rfl rfl) u3) ?_
      iterate 3 refine gx ?_
      by_cases u4 : (0 : Int) < q
      ·refine qB (qI rfl rfl rfl) rfl (qV (qs rfl rfl rfl) u4) ?_
       iterate 4 refine gx ?_
       refine qC [1, 3, 4, 5, 46] ?_
       refine qd rfl ?_
       iterate 8 refine gx ?_
       refine qB (qA rfl) rfl (qQ rfl rfl rfl (r := 0) (w64 (by omega) (by omega))) ?_
       iterate 2 refine gx ?_
       exact qc ((1, 0) : Nat × Int) (by dsimp only; omega) ⟨by show 0 + 1 ≤ m + 1; omega, gapQ_step (d := 0) hQ (by omega) (candI_zero) (by have hfi := findI_free (Cs := Cs) (off := 0); first | exact .inl ⟨by omega, hfi.1 (by omega), by omega, rfl⟩ | exact .inr ⟨fun h => by have h2 := hfi.2 h.2.1; have h3 := h.1; have h4 := h.2.2; omega, rfl⟩)⟩ (qJ (i := 1) rfl (qF (i := 3) rfl rfl (qF (i := 4) rfl (by dsimp only; omega) (qO)))) (fun w h => h)
      ·refine qB (qI rfl rfl rfl) rfl (qT (qs rfl rfl rfl) u4) ?_
       iterate 4 refine gx ?_
       refine qC [1, 3, 4, 5, 46] ?_
       refine qa rfl ?_
       iterate 5 refine gx ?_
       refine qB (qA rfl) rfl (qQ rfl rfl rfl (r := 0) (w64 (by omega) (by omega))) ?_
       iterate 2 refine gx ?_
       exact qc ((1, q) : Nat × Int) (by dsimp only; omega) ⟨by show 0 + 1 ≤ m + 1; omega, gapQ_step (d := 0) hQ (by omega) (candI_zero) (by have hfi := findI_free (Cs := Cs) (off := 0); first | exact .inl ⟨by omega, hfi.1 (by omega), by omega, rfl⟩ | exact .inr ⟨fun h => by have h2 := hfi.2 h.2.1; have h3 := h.1; have h4 := h.2.2; omega, rfl⟩)⟩ (qJ (i := 1) rfl (qF (i := 3) rfl rfl (qF (i := 4) rfl (by dsimp only; omega) (qO)))) (fun w h => h)
    ·refine qB (qI rfl rfl rfl) rfl (qT (qs rfl rfl rfl) u2) ?_
     iterate 12 refine gx ?_
     refine qC [1, 3, 4, 5, 46] ?_
     refine qa rfl ?_
     iterate 5 refine gx ?_
     refine qB (qA rfl) rfl (qQ rfl rfl rfl (r := 0) (w64 (by omega) (by omega))) ?_
     iterate 2 refine gx ?_
     exact qc ((1, q) : Nat × Int) (by dsimp only; omega) ⟨by show 0 + 1 ≤ m + 1; omega, gapQ_step (d := 0) hQ (by omega) (candI_zero) (by have hfi := findI_free (Cs := Cs) (off := 0); first | exact .inl ⟨by omega, hfi.1 (by omega), by omega, rfl⟩ | exact .inr ⟨fun h => by have h2 := hfi.2 h.2.1; have h3 := h.1; have h4 := h.2.2; omega, rfl⟩)⟩ (qJ (i := 1) rfl (qF (i := 3) rfl rfl (qF (i := 4) rfl (by dsimp only; omega) (qO)))) (fun w h => h)
   ·refine qB (qA rfl) rfl (qT (qs rfl rfl rfl) u1) ?_
    iterate 17 refine gx ?_
    refine qC [1, 3, 4, 5, 46] ?_
    refine qa rfl ?_
    iterate 5 refine gx ?_
    refine qB (qA rfl) rfl (qQ rfl rfl rfl (r := 0) (w64 (by omega) (by omega))) ?_
    iterate 2 refine gx ?_
    exact qc ((1, q) : Nat × Int) (by dsimp only; omega) ⟨by show 0 + 1 ≤ m + 1; omega, gapQ_step (d := 0) hQ (by omega) (candI_zero) (by have hfi := findI_free (Cs := Cs) (off := 0); first | exact .inl ⟨by omega, hfi.1 (by omega), by omega, rfl⟩ | exact .inr ⟨fun h => by have h2 := hfi.2 h.2.1; have h3 := h.1; have h4 := h.2.2; omega, rfl⟩)⟩ (qJ (i := 1) rfl (qF (i := 3) rfl rfl (qF (i := 4) rfl (by dsimp only; omega) (qO)))) (fun w h => h)
 ·obtain rfl : i = m + 1 := by omega
  iterate 12 refine gx ?_
  exact qK rfl rfl (fun w hs => ⟨ret_i ((gap_end hC.1 hQ).symm), (hs.drop (by assumption))⟩)
theorem roverlap_g (o l p n : Int) (ho : -9223372036854775808 ≤ o + l ∧ o + l ≤ 9223372036854775807) (hp : -9223372036854775808 ≤ p + n ∧ p + n ≤ 9223372036854775807) (bo : 0 ≤ o) (bp : 0 ≤ p) (w : World) : Calls Tryz.prog 53 #[.agg ([int .i64 o, int .i64 l]).toArray, .agg ([int .i64 p, int .i64 n]).toArray] w fun e w' => e = .returned (.agg ([int .i64 (ovO o l p n), int .i64 (ovL o l p n)]).toArray) ∧ St w [] w' := by
 unfold ovO ovL
 by_cases hc : min (o + l) (p + n) ≤ max o p
 ·rw [if_pos hc, if_pos hc]; exact roverlap_no o l p n ho hp hc w
 ·rw [if_neg hc, if_neg hc]; exact roverlap_yes o l p n ho hp hc bo bp w
theorem rdcheck_c (o n : Int) (H1 H2 : List Int) (hH1 : H1.length = 32) (hH2 : H2.length = 32) (A : Option Addr) (m c : Nat) (Cs : List CV) (hmm : m ≤ 1000000000) (hN : NumsC Cs) (w : World) (hC : SrcC w A m Cs)  : Calls Tryz.prog 32 #[.agg (dV o n H1 H2 (slice A m c)).toArray] w fun e w' => e = .returned (.tuple #[.int .i64 (faultI o n Cs).1, .int .i64 (faultI o n Cs).2]) ∧ St w [] w' := by
 refine qM (args := [.agg (dV o n H1 H2 (slice A m c)).toArray]) Tryz.func32 rfl Tryz.ntmps32 (by simp) ?_
 refine qC [0] ?_
 iterate 2 refine gx ?_
 refine qu (qA rfl) rfl rfl rfl (cs := dV o n H1 H2 (slice A m c)) (by simp [Value.cells]) (tot := 67) (by simp [hH1, hH2]) (fun g1 hg1 => ?_)
 iterate 6 refine gx ?_
 refine qt (by kernel_rfl) [0, 1, 0, 0, 0, 1, 0, 0, 0, 0, 1, 1, 0, 0, 0, 0, 1, 1, 0, 0] rfl (by kernel_rfl) ?_
 iterate 2 refine gx ?_
 by_cases u1 : o < 0
 ·refine qH (qA rfl) rfl (fun _ => qV (qs rfl rfl rfl) u1) ?_
  refine gx ?_
  refine qn rfl rfl rfl rfl rfl ?_
  refine qq rfl rfl rfl rfl rfl ?_
  refine qn rfl rfl rfl rfl rfl ?_
  iterate 2 refine gx ?_
  refine qn rfl rfl rfl rfl rfl ?_
  refine qq rfl rfl rfl rfl rfl ?_
  refine qq rfl rfl rfl rfl rfl ?_
  refine qn rfl rfl rfl rfl rfl ?_
  iterate 2 refine gx ?_
  refine qn rfl rfl rfl rfl rfl ?_
  refine qq rfl rfl rfl rfl rfl ?_
  refine qq rfl rfl rfl rfl rfl ?_
  refine qn rfl rfl rfl rfl rfl ?_
  iterate 3 refine gx ?_
  refine qC [1, 2, 3, 28] ?_
  refine qd rfl ?_
  iterate 8 refine gx ?_
  exact TE.ret2 rfl rfl rfl (fun w hs => ⟨by have hf := faultI_len (o := o) (n := n) (Cs := Cs) (by unfold okLen; omega); rw [hf], (hs.drop (by assumption))⟩)
 ·refine qH (qA rfl) rfl (fun _ => qT (qs rfl rfl rfl) u1) ?_
  iterate 3 refine gx ?_
  by_cases u2 : n < 0
  ·refine qH (qI rfl rfl rfl) rfl (fun _ => qV (qs rfl rfl rfl) u2) ?_
   iterate 2 refine gx ?_
   refine qn rfl rfl rfl rfl rfl ?_
   refine qq rfl rfl rfl rfl rfl ?_
   refine qq rfl rfl rfl rfl rfl ?_
   refine qn rfl rfl rfl rfl rfl ?_
   iterate 2 refine gx ?_
   refine qn rfl rfl rfl rfl rfl ?_
   refine qq rfl rfl rfl rfl rfl ?_
   refine qq rfl rfl rfl rfl rfl ?_
   refine qn rfl rfl rfl rfl rfl ?_
   iterate 3 refine gx ?_
   refine qC [1, 2, 3, 28] ?_
   refine qd rfl ?_
   iterate 8 refine gx ?_
   exact TE.ret2 rfl rfl rfl (fun w hs => ⟨by have hf := faultI_len (o := o) (n := n) (Cs := Cs) (by unfold okLen; omega); rw [hf], (hs.drop (by assumption))⟩)
  ·refine qH (qI rfl rfl rfl) rfl (fun _ => qT (qs rfl rfl rfl) u2) ?_
   iterate 4 refine gx ?_
   refine zE (qI rfl rfl rfl) rfl enters51 rfl rfl (v := .int .i64 4611686018427387903) (fun w hs => max_c w) ?_
   by_cases u3 : 4611686018427387903 < o
   ·refine qH (qI rfl rfl rfl) rfl (fun _ => qV (zF rfl rfl rfl) u3) ?_
    iterate 2 refine gx ?_
    refine qn rfl rfl rfl rfl rfl ?_
    refine qq rfl rfl rfl rfl rfl ?_
    refine qq rfl rfl rfl rfl rfl ?_
    refine qn rfl rfl rfl rfl rfl ?_
    iterate 3 refine gx ?_
    refine qC [1, 2, 3, 28] ?_
    refine qd rfl ?_
    iterate 8 refine gx ?_
    exact TE.ret2 rfl rfl rfl (fun w hs => ⟨by have hf := faultI_len (o := o) (n := n) (Cs := Cs) (by unfold okLen; omega); rw [hf], (hs.drop (by assumption))⟩)
   ·refine qH (qI rfl rfl rfl) rfl (fun _ => qT (zF rfl rfl rfl) u3) ?_
    iterate 4 refine gx ?_
    refine zE (qI rfl rfl rfl) rfl enters51 rfl rfl (v := .int .i64 4611686018427387903) (fun w hs => max_c w) ?_
    by_cases u4 : 4611686018427387903 < n
    ·refine qH (qI rfl rfl rfl) rfl (fun _ => qV (zF rfl rfl rfl) u4) ?_
     iterate 3 refine gx ?_
     refine qC [1, 2, 3, 28] ?_
     refine qd rfl ?_
     iterate 8 refine gx ?_
     exact TE.ret2 rfl rfl rfl (fun w hs => ⟨by have hf := faultI_len (o := o) (n := n) (Cs := Cs) (by unfold okLen; omega); rw [hf], (hs.drop (by assumption))⟩)
    ·refine qH (qI rfl rfl rfl) rfl (fun _ => qT (zF rfl rfl rfl) u4) ?_
     iterate 3 refine gx ?_
     refine qC [1, 2, 3, 28] ?_
     refine qa rfl ?_
     iterate 9 refine gx ?_
     refine qm (ι := Nat) (fun i => [(1, .pointer (some ⟨g1, 0, none⟩)), (4, .int .i64 (i : Int))]) (fun i => [⟨g1, 26, dV o n H1 H2 (slice A m c), 67⟩]) (fun i => m - i) (fun i => i ≤ m ∧ ∀ (j : Nat) (y : CV), j < i → Cs[j]? = some y → singleV o n y = 0) 0 ⟨Nat.zero_le _, fun j y h => absurd h (Nat.not_lt_zero j)⟩ (qJ (i := 1) rfl (qF (i := 4) rfl (by first | omega | rfl) (qO))) (fun w h => h) (fun i hC0 => ?_)
     obtain ⟨hC0, hA1⟩ := hC0
     iterate 10 refine gx ?_
     refine qP rfl (fun hq1 => ?_) (fun hq1 => ?_)
     ·obtain ⟨b, off, hAe, hb, hrw⟩ := hC.some_ (i := i) (by omega)
      subst hAe
      obtain ⟨x, hx⟩ := hC.get (i := i) (by omega)
      have hnx := hN i x hx
      unfold NumC at hnx
      have hlbx := lenV_bd (k := x.k) (l := x.l) (m := x.m) (by omega) (by omega)
      iterate 5 refine gx ?_
      refine qt (by kernel_rfl) [1, 0, 1, 0, 0, 1, 1, 0] rfl (by kernel_rfl) ?_
      iterate 4 refine gx ?_
      refine qH (qA rfl) rfl (fun _ => qb rfl Tryz.underlying24 size54 rfl rfl (i := i) (by omega) (by omega) (off' := (off + 5 * i)) (by omega)) ?_
      refine qY (qA rfl) rfl (qi rfl agg54 size54 rfl rfl (Row.old (fun jj u h => hrw i x hx jj u h) hb (qD (by show g1 ≠ b; omega) qE))) ?_
      refine zE (qA rfl) rfl enters52 rfl rfl (v := .int .i64 (singleV o n x)) (fun w hs => single_c o n H1 H2 hH1 hH2 (some ⟨b, off, none⟩) m c Cs x (hN _ x hx) w) ?_
      iterate 3 refine gx ?_
      refine qC [1, 4, 5] ?_
      iterate 6 refine gx ?_
      refine qP rfl (fun hq2 => ?_) (fun hq2 => ?_)
      ·iterate 14 refine gx ?_
       exact TE.ret2 rfl rfl rfl (fun w hs => ⟨by have hf := faultI_single (show okLen o n by unfold okLen; omega) hx (by omega) hA1; rw [hf], (hs.drop (by assumption))⟩)
      ·iterate 5 refine gx ?_
       refine qB (qA rfl) rfl (qQ rfl rfl rfl (r := ((i : Int) + 1)) (w64 (by omega) (by omega))) ?_
       iterate 2 refine gx ?_
       exact qc (i + 1) (by omega) ⟨by omega, all_succ hA1 hx (by omega)⟩ (qJ (i := 1) rfl (qF (i := 4) rfl (by first | omega | rfl) (qO))) (fun w h => h)
     ·have hS : ∀ (i : Nat) (x : CV), Cs[i]? = some x → singleV o n x = 0 := all_of (m := m) (by have := hC.1; omega) (fun j y hj => hA1 j y (by omega))
      have hV : ∀ (i : Nat) (x : CV), Cs[i]? = some x → vld x.t (lenV x.k x.l x.m) := fun i x hx => (single_vld (hS i x hx)).1
      iterate 12 refine gx ?_
      refine qm (ι := Nat) (fun i => [(1, .pointer (some ⟨g1, 0, none⟩)), (6, .int .i64 (i : Int))]) (fun i => [⟨g1, 26, dV o n H1 H2 (slice A m c), 67⟩]) (fun i => m - i) (fun i => i ≤ m ∧ ∀ i', i' < i → ¬ bad2 Cs i') 0 ⟨Nat.zero_le _, fun i h => absurd h (Nat.not_lt_zero i)⟩ (qJ (i := 1) rfl (qF (i := 6) rfl (by first | omega | rfl) (qO))) (fun w h => h) (fun i hC1 => ?_)
      obtain ⟨hC1, hB1⟩ := hC1
      iterate 10 refine gx ?_
      refine qP rfl (fun hq3 => ?_) (fun hq3 => ?_)
      ·obtain ⟨b, off, hAe, hb, hrw⟩ := hC.some_ (i := i) (by omega)
       subst hAe
       obtain ⟨x, hx⟩ := hC.get (i := i) (by omega)
       have hnx := hN i x hx
       unfold NumC at hnx
       have hlbx := lenV_bd (k := x.k) (l := x.l) (m := x.m) (by omega) (by omega)
       have hvx := single_vld (hS i x hx)
       unfold vld at hvx
       iterate 10 refine gx ?_
       refine qm (ι := Nat) (fun j => [(1, .pointer (some ⟨g1, 0, none⟩)), (6, .int .i64 (i : Int)), (7, .int .i64 (j : Int))]) (fun j => [⟨g1, 26, [int .i64 o, int .i64 n] ++ (H1.map (int .u8) ++ (H2.map (int .u8) ++ ([slice (some ⟨b, off, none⟩) m c]))), 67⟩]) (fun j => i - j) (fun j => j ≤ i ∧ ∀ (j' : Nat) (y : CV), j' < j → Cs[j']? = some y → ¬ meets (tg x).1 (tg x).2 (tg y).1 (tg y).2) 0 ⟨Nat.zero_le _, fun j y h => absurd h (Nat.not_lt_zero j)⟩ (qJ (i := 1) rfl (qF (i := 6) rfl (by first | omega | rfl) (qF (i := 7) rfl (by first | omega | rfl) (qO)))) (fun w h => h) (fun j hC2 => ?_)
       obtain ⟨hC2, hj2⟩ := hC2
       iterate 8 refine gx ?_
       refine qP rfl (fun hq4 => ?_) (fun hq4 => ?_)
       ·obtain ⟨y, hy⟩ := hC.get (i := j) (by omega)
        have hny := hN j y hy
        unfold NumC at hny
        have hvy := (single_vld (hS j y hy))
        unfold vld at hvy
        have hq4n : j < i := by omega
        iterate 5 refine gx ?_
        refine qt (by kernel_rfl) [0, 1, 0, 0, 1, 1, 0, 1, 0, 0, 1, 1, 1, 0, 0] rfl (by kernel_rfl) ?_
        iterate 3 refine gx ?_
        refine qH (qA rfl) rfl (fun _ => qb rfl Tryz.underlying24 size54 rfl rfl (i := i) (by omega) (by omega) (off' := (off + 5 * i)) (by omega)) ?_
        refine qY (qA rfl) rfl (qi rfl agg54 size54 rfl rfl (Row.old (fun jj u h => hrw i x hx jj u h) hb (qD (by show g1 ≠ b; omega) qE))) ?_
        refine zE (qA rfl) rfl enters54 rfl rfl (v := .agg ([int .i64 x.t, int .i64 (lenV x.k x.l x.m)]).toArray) (fun w hs => rtarget_c x.k x.t x.f x.l x.A x.m x.c w) ?_
        iterate 3 refine gx ?_
        refine qH (qA rfl) rfl (fun _ => qb rfl Tryz.underlying24 size54 rfl rfl (i := j) (by omega) (by omega) (off' := (off + 5 * j)) (by omega)) ?_
        refine qY (qA rfl) rfl (qi rfl agg54 size54 rfl rfl (Row.old (fun jj u h => hrw j y hy jj u h) hb (qD (by show g1 ≠ b; omega) qE))) ?_
        refine zE (qA rfl) rfl enters54 rfl rfl (v := .agg ([int .i64 y.t, int .i64 (lenV y.k y.l y.m)]).toArray) (fun w hs => rtarget_c y.k y.t y.f y.l y.A y.m y.c w) ?_
        refine zE (qA rfl) rfl enters53 rfl rfl (v := .agg ([int .i64 (ovO x.t (lenV x.k x.l x.m) y.t (lenV y.k y.l y.m)), int .i64 (ovL x.t (lenV x.k x.l x.m) y.t (lenV y.k y.l y.m))]).toArray) (fun w hs => roverlap_g x.t (lenV x.k x.l x.m) y.t (lenV y.k y.l y.m) (by omega) (by omega) (by omega) (by omega) w) ?_
        refine qH (qA rfl) rfl (fun _ => Gets.field1 rfl Tryz.underlying81 rfl rfl agg3 rfl) ?_
        iterate 3 refine gx ?_
        refine qC [1, 6, 7, 73] ?_
        refine qP rfl (fun hq5 => ?_) (fun hq5 => ?_)
        ·iterate 17 refine gx ?_
         exact TE.ret2 rfl rfl rfl (fun w hs => ⟨by have hf := faultI_over (show okLen o n by unfold okLen; omega) hS hx hq4n hy ((ovL_meets _ _ _ _).1 hq5) hB1; rw [hf], (hs.drop (by assumption))⟩)
        ·iterate 5 refine gx ?_
         refine qB (qA rfl) rfl (qQ rfl rfl rfl (r := ((j : Int) + 1)) (w64 (by omega) (by omega))) ?_
         iterate 2 refine gx ?_
         exact qc (j + 1) (by omega) ⟨by omega, all_succ hj2 hy (fun hm => hq5 ((ovL_meets _ _ _ _).2 hm))⟩ (qJ (i := 1) rfl (qF (i := 6) rfl (by first | omega | rfl) (qF (i := 7) rfl (by first | omega | rfl) (qO)))) (fun w h => h)
       ·iterate 8 refine gx ?_
        refine qB (qA rfl) rfl (qQ rfl rfl rfl (r := ((i : Int) + 1)) (w64 (by omega) (by omega))) ?_
        iterate 2 refine gx ?_
        exact qc (i + 1) (by omega) ⟨by omega, bad2_succ hB1 hx (fun j' y' hj' => hj2 j' y' (by omega))⟩ (qJ (i := 1) rfl (qF (i := 6) rfl (by first | omega | rfl) (qO))) (fun w h => h)
      ·have hB2 : ∀ i, ¬ bad2 Cs i := bad2_all (m := m) (by have := hC.1; omega) (fun i' hi => hB1 i' (by omega))
       iterate 8 refine gx ?_
       refine qL (qA rfl) rfl enters55 rfl rfl (v := .int .i64 (gapI n Cs)) (fun w hs => rgap_c o n H1 H2 hH1 hH2 A m c Cs hV hmm hN w (hC.at_ hs (fun b hb => (qD (by show g1 ≠ b; omega) qE)))) ?_
       iterate 3 refine gx ?_
       refine qC [8] ?_
       iterate 7 refine gx ?_
       refine qP rfl (fun hq6 => ?_) (fun hq6 => ?_)
       ·iterate 9 refine gx ?_
        exact TE.ret2 rfl rfl rfl (fun w hs => ⟨by have hf := (faultI_gap (show okLen o n by unfold okLen; omega) hS hB2).trans (if_pos hq6); rw [hf], (hs.drop (by assumption))⟩)
       ·iterate 9 refine gx ?_
        exact TE.ret2 rfl rfl rfl (fun w hs => ⟨by have hf := (faultI_gap (show okLen o n by unfold okLen; omega) hS hB2).trans (if_neg hq6); rw [hf], (hs.drop (by assumption))⟩)
theorem rdvalid_c (o n : Int) (H1 H2 : List Int) (hH1 : H1.length = 32) (hH2 : H2.length = 32) (A : Option Addr) (m c : Nat) (Cs : List CV) (hmm : m ≤ 1000000000) (hN : NumsC Cs) (w : World) (hC : SrcC w A m Cs)  : Calls Tryz.prog 30 #[.agg (dV o n H1 H2 (slice A m c)).toArray] w fun e w' => e = .returned (.bool (decide ((faultI o n Cs).1 = 0))) ∧ St w [] w' := by
 refine qM (args := [.agg (dV o n H1 H2 (slice A m c)).toArray]) Tryz.func30 rfl Tryz.ntmps30 (by simp) ?_
 refine qC [0] ?_
 iterate 2 refine gx ?_
 refine qu (qA rfl) rfl rfl rfl (cs := dV o n H1 H2 (slice A m c)) (by simp [Value.cells]) (tot := 67) (by simp [hH1, hH2]) (fun g1 hg1 => ?_)
 iterate 6 refine gx ?_
 refine qL (qA rfl) rfl enters32 rfl rfl (v := .tuple #[.int .i64 ((faultI o n Cs).1), .int .i64 ((faultI o n Cs).2)]) (fun w hs => rdcheck_c o n H1 H2 hH1 hH2 A m c Cs hmm hN w (hC.at_ hs (fun b hb => (qD (by show g1 ≠ b; omega) qE)))) ?_
 iterate 7 refine gx ?_
 refine qC [2, 3] ?_
 iterate 8 refine gx ?_
 exact qK rfl rfl (fun w hs => ⟨dec_iff (Iff.rfl), (hs.drop (by assumption))⟩)
/-
 The reference of layer 5: Totals.
-/
/-
 The reference of layer 5: All, Same.
-/
theorem enters27 : Enters Tryz.prog 27 := ⟨_, Tryz.func27, by kernel_rfl, by kernel_rfl⟩
theorem enters47 : Enters Tryz.prog 47 := ⟨_, Tryz.func47, by kernel_rfl, by kernel_rfl⟩
instance : Fld Tryz.prog 26 2 2 := ⟨⟨_, _, _, Tryz.underlying26, rfl, size23, rfl⟩⟩
instance : Fld Tryz.prog 26 3 34 := ⟨⟨_, _, _, Tryz.underlying26, rfl, size23, rfl⟩⟩
theorem rall_c (A A2 : Option Addr) (m c m2 c2 : Nat) (Cs Es : List CV) (hmm : m ≤ 1000000000) (hmm2 : m2 ≤ 1000000000) (hN : NumsC Cs) (w : World) (hC : SrcC w A m Cs) (hC2 : SrcC w A2 m2 Es) (hD : DatC w Cs) (hE : DatC w Es) : Calls Tryz.prog 27 #[.slice A m c, .slice A2 m2 c2] w fun e w' => e = .returned (.bool (decide (sameC Cs Es))) ∧ St w [] w' := by
 refine qM (args := [.slice A m c, .slice A2 m2 c2]) Tryz.func27 rfl Tryz.ntmps27 (by simp) ?_
 refine qC [0, 1] ?_
 iterate 15 refine gx ?_
 refine qP rfl (fun hq0 => ?_) (fun hq0 => ?_)
 ·iterate 7 refine gx ?_
  exact qK rfl rfl (fun w hs => ⟨dec_f (fun h => by first | exact hq2 (sameC_at h hx hy) | (have h1 := sameC_len h; have h2 := hC.1; have h3 := hC2.1; omega)), hs⟩)
 ·iterate 8 refine gx ?_
  refine qC [0, 1, 4, 5] ?_
  refine gx ?_
  refine qm (ι := Nat) (fun i => [(0, .slice A m c), (1, .slice A2 m2 c2), (5, .int .i64 (i : Int))]) (fun i => []) (fun i => m - i) (fun i => i ≤ m ∧ ∀ (j : Nat) (x y : CV), j < i → Cs[j]? = some x → Es[j]? = some y → sameV x y) 0 ⟨Nat.zero_le _, fun j x y h => absurd h (Nat.not_lt_zero j)⟩ (qR (i := 0) rfl rfl (by first | omega | (dsimp only; omega) | rfl) (by first | omega | (dsimp only; omega) | rfl) (qR (i := 1) rfl rfl (by first | omega | (dsimp only; omega) | rfl) (by first | omega | (dsimp only; omega) | rfl) (qF (i := 5) rfl (by first | omega | rfl) (qO)))) (fun w h => h) (fun i hC0 => ?_)
  obtain ⟨hC0, hj⟩ := hC0
  iterate 9 refine gx ?_
  refine qP rfl (fun hq1 => ?_) (fun hq1 => ?_)
  ·obtain ⟨b, off, hAe, hb, hrw⟩ := hC.some_ (i := i) (by omega)
   subst hAe
   obtain ⟨x, hx⟩ := hC.get (i := i) (by omega)
   have hnx := hN i x hx
   unfold NumC at hnx
   have hlbx := lenV_bd (k := x.k) (l := x.l) (m := x.m) (by omega) (by omega)
   obtain ⟨b2, off2, hAe2, hb2, hrw2⟩ := hC2.some_ (i := i) (by omega)
   subst hAe2
   obtain ⟨y, hy⟩ := hC2.get (i := i) (by omega)
   iterate 5 refine gx ?_
   refine qt (by kernel_rfl) [0, 0, 0, 1, 0, 0, 0, 1, 1, 0] rfl (by kernel_rfl) ?_
   iterate 2 refine gx ?_
   refine qH (qA rfl) rfl (fun _ => qb rfl Tryz.underlying24 size54 rfl rfl (i := i) (by omega) (by omega) (off' := (off + 5 * i)) (by omega)) ?_
   refine qY (qA rfl) rfl (qi rfl agg54 size54 rfl rfl (Row.old (fun jj u h => hrw i x hx jj u h) hb qE)) ?_
   iterate 2 refine gx ?_
   refine qH (qA rfl) rfl (fun _ => qb rfl Tryz.underlying24 size54 rfl rfl (i := i) (by omega) (by omega) (off' := (off2 + 5 * i)) (by omega)) ?_
   refine qY (qA rfl) rfl (qi rfl agg54 size54 rfl rfl (Row.old (fun jj u h => hrw2 i y hy jj u h) hb2 qE)) ?_
   refine zE (qA rfl) rfl enters47 rfl rfl (v := .bool (decide (sameP x.k x.t x.f x.l y.k y.t y.f y.l x.B y.B))) (fun w hs => rsame_c x.k x.t x.f x.l y.k y.t y.f y.l x.A y.A x.m x.c y.m y.c x.B y.B (hD i x hx).2 (hE i y hy).2 w ((hD i x hx).1.at_ hs (fun b hb => qE)) ((hE i y hy).1.at_ hs (fun b hb => qE))) ?_
   iterate 3 refine gx ?_
   refine qC [0, 1, 5, 26] ?_
   refine qP rfl (fun hq2 => ?_) (fun hq2 => ?_)
   ·iterate 11 refine gx ?_
    exact qK rfl rfl (fun w hs => ⟨dec_f (fun h => by first | exact hq2 (sameC_at h hx hy) | (have h1 := sameC_len h; have h2 := hC.1; have h3 := hC2.1; omega)), hs⟩)
   ·iterate 5 refine gx ?_
    refine qB (qA rfl) rfl (qQ rfl rfl rfl (r := ((i : Int) + 1)) (w64 (by omega) (by omega))) ?_
    iterate 2 refine gx ?_
    exact qc (i + 1) (by omega) ⟨by omega, sameC_succ hj hx hy (Decidable.not_not.1 hq2)⟩ (qR (i := 0) rfl (by first | rfl | (congr 2; omega)) (by first | omega | (dsimp only; omega) | rfl) (by first | omega | (dsimp only; omega) | rfl) (qR (i := 1) rfl (by first | rfl | (congr 2; omega)) (by first | omega | (dsimp only; omega) | rfl) (by first | omega | (dsimp only; omega) | rfl) (qF (i := 5) rfl (by first | omega | rfl) (qO)))) (fun w h => h)
  ·iterate 11 refine gx ?_
   exact qK rfl rfl (fun w hs => ⟨dec_t (sameC_of (by have := hC.1; have := hC2.1; omega) fun i' x y hx hy => hj i' x y (by have := (List.getElem?_eq_some_iff.1 hx).1; have := hC.1; omega) hx hy), hs⟩)
/-
 A slice of the call's own whose elements are values of one cell each; blocks that a loop has made, one a round; three-number arrays.
-/
section
variable {P : Program} {ops : Array Oper} {Q : Exit → Act → World → Prop} {n : Sz} {w0 : World} {L L' : List (Nat × Value)} {H : List Ent}
variable {o : Oper} {rest : List Oper} {v u : Value} {x y z : Operand} {k m j : Nat} {t t' e : TypeId} {ks : List Nat} {kd : IntKind}
end
/-
 The reference of layer 5: With, Sort.
-/
theorem zero26 : (Tryz.prog.info? 26).bind (·.zero) = some (.agg #[.int .i64 0, .int .i64 0, .int .u8 0, .int .u8 0, .int .u8 0, .int .u8 0, .int .u8 0, .int .u8 0, .int .u8 0, .int .u8 0, .int .u8 0, .int .u8 0, .int .u8 0, .int .u8 0, .int .u8 0, .int .u8 0, .int .u8 0, .int .u8 0, .int .u8 0, .int .u8 0, .int .u8 0, .int .u8 0, .int .u8 0, .int .u8 0, .int .u8 0, .int .u8 0, .int .u8 0, .int .u8 0, .int .u8 0, .int .u8 0, .int .u8 0, .int .u8 0, .int .u8 0, .int .u8 0, .int .u8 0, .int .u8 0, .int .u8 0, .int .u8 0, .int .u8 0, .int .u8 0, .int .u8 0, .int .u8 0, .int .u8 0, .int .u8 0, .int .u8 0, .int .u8 0, .int .u8 0, .int .u8 0, .int .u8 0, .int .u8 0, .int .u8 0, .int .u8 0, .int .u8 0, .int .u8 0, .int .u8 0, .int .u8 0, .int .u8 0, .int .u8 0, .int .u8 0, .int .u8 0, .int .u8 0, .int .u8 0, .int .u8 0, .int .u8 0, .int .u8 0, .int .u8 0, .slice none 0 0]) := by kernel_rfl
theorem rdwith_c (o n : Int) (H1 H2 : List Int) (hH1 : H1.length = 32) (hH2 : H2.length = 32) (A A2 : Option Addr) (m c m2 c2 : Nat) (w : World) : Calls Tryz.prog 25 #[.agg (dV o n H1 H2 (slice A m c)).toArray, .slice A2 m2 c2] w fun e w' => e = .returned (.agg (dV o n H1 H2 (slice A2 m2 c2)).toArray) ∧ St w [] w' := by
 refine qM (args := [.agg (dV o n H1 H2 (slice A m c)).toArray, .slice A2 m2 c2]) Tryz.func25 rfl Tryz.ntmps25 (by simp) ?_
 refine qC [0, 1] ?_
 iterate 2 refine gx ?_
 refine qu (qA rfl) rfl rfl rfl (cs := dV o n H1 H2 (slice A m c)) (by simp [Value.cells]) (tot := 67) (by simp [hH1, hH2]) (fun g1 hg1 => ?_)
 refine TL.alloc (qA rfl) rfl rfl zero26 (cs := [int .i64 0, int .i64 0] ++ ((List.replicate 64 0).map (int .u8) ++ ([slice none 0 0]))) rfl (tot := 67) (by simp) (fun g2 hg2 => ?_)
 iterate 6 refine gx ?_
 refine qz (qA rfl) rfl rfl size24 rfl rfl rfl (i := 1) rfl rfl (by simp [hH1, hH2] <;> omega) (cs' := dV o n H1 H2 (slice A2 m2 c2)) (set_right (a := 2) (i := 64) (rfl) (set_right (a := 32) (i := 32) (ints_len hH1) (set_right (a := 32) (i := 0) (ints_len hH2) (rfl)))) (H' := [⟨g2, 26, [int .i64 0, int .i64 0] ++ ((List.replicate 64 0).map (int .u8) ++ ([slice none 0 0])), 67⟩, ⟨g1, 26, dV o n H1 H2 (slice A2 m2 c2), 67⟩]) rfl ?_
 iterate 5 refine gx ?_
 refine zI (qA rfl) rfl rfl size26 rfl (vs := dV o n H1 H2 (slice A2 m2 c2)) rfl (by simp [hH1, hH2]) (zB (by simp [Value.oneCell']) (zB qw (zB qw (by simp [Value.oneCell'])))) (i := 0) (ent := ⟨g2, 26, [int .i64 0, int .i64 0] ++ ((List.replicate 64 0).map (int .u8) ++ ([slice none 0 0])), 67⟩) rfl rfl (by simp []) (H' := [⟨g2, 26, dV o n H1 H2 (slice A2 m2 c2), 67⟩, ⟨g1, 26, dV o n H1 H2 (slice A2 m2 c2), 67⟩]) rfl ?_
 iterate 3 refine gx ?_
 exact ql rfl agg26 size26 rfl (vs := dV o n H1 H2 (slice A2 m2 c2)) (by simp [hH1, hH2]) (qX (i := 0) (ent := ⟨g2, 26, dV o n H1 H2 (slice A2 m2 c2), 67⟩) rfl rfl rfl) (fun w hs => ⟨rfl, ((hs.drop (by assumption)).drop (by assumption))⟩)
theorem agg78 : (isAgg 78).run Tryz.prog = fun w => .ok false w := isAgg_no Tryz.underlying78 rfl
theorem agg83 : (isAgg 83).run Tryz.prog = fun w => .ok true w := isAgg_yes Tryz.underlying83 rfl
theorem enters112 : Enters Tryz.prog 112 := ⟨_, Tryz.func112, by kernel_rfl, by kernel_rfl⟩
theorem size83 : (Tryz.prog.info? 83).map (·.size) = some 3 := by kernel_rfl
theorem zero3 : (Tryz.prog.info? 3).bind (·.zero) = some (.int .i64 0) := by kernel_rfl
theorem zero4 : (Tryz.prog.info? 4).bind (·.zero) = some (.bool false) := by kernel_rfl
theorem zero83 : (Tryz.prog.info? 83).bind (·.zero) = some (.agg #[.int .i64 0, .int .i64 0, .int .i64 0]) := by kernel_rfl
instance : Fld Tryz.prog 83 0 0 := ⟨⟨_, _, _, Tryz.underlying83, rfl, size81, rfl⟩⟩
instance : Fld Tryz.prog 83 1 2 := ⟨⟨_, _, _, Tryz.underlying83, rfl, size3, rfl⟩⟩
instance : Siz Tryz.prog 83 3 := ⟨size83⟩
instance : Sli Tryz.prog 78 83 := ⟨Tryz.underlying78⟩
instance : Zer Tryz.prog 3 [int .i64 0] := ⟨⟨_, zero3, rfl⟩⟩
instance : Zer Tryz.prog 4 [Value.bool false] := ⟨⟨_, zero4, rfl⟩⟩
instance : Zer Tryz.prog 83 [int .i64 0, int .i64 0, int .i64 0] := ⟨⟨_, zero83, rfl⟩⟩
theorem upTo_iter (p1 p2 gt m : Nat) (Ts : List TV) (q : Int) (hq : -9223372036854775808 ≤ q ∧ q ≤ 9223372036854775807) (hm : m ≤ 1000000000) (hnum : ∀ t ∈ Ts, (-9223372036854775808 ≤ t.o ∧ t.o ≤ 9223372036854775807) ∧ (-9223372036854775808 ≤ t.l ∧ t.l ≤ 9223372036854775807) ∧ t.x ≤ 9223372036854775807) (w0 : World) (hc0 : CapT w0 p1 p2 gt m Ts q) : IterC Fence.wide 2 Tryz.prog 112 #[.pointer (some ⟨p1, 0, none⟩), .pointer (some ⟨p2, 0, none⟩)] (fun i => #[encP (upF Ts q) i]) (upF Ts q).length 0 (capK p1 p2 gt) w0 := by
 intro l J Jx W hW hJ hJx hY hJ0
 have hc : CapT W p1 p2 gt m Ts q := hc0.keep (fun k hk => hW.block k (hc0.lt hk)) hW.size
 have hc1 := hc.h1
 have hc2 := hc.h2
 have hc3 := hc.h3
 show CallsIn Fence.wide 2 Tryz.prog 112 #[.func (.yield l) #[] #[], .pointer (some ⟨p1, 0, none⟩), .pointer (some ⟨p2, 0, none⟩)] W _
 refine callsIn_from (args := [.func (.yield l) #[] #[], .pointer (some ⟨p1, 0, none⟩), .pointer (some ⟨p2, 0, none⟩)]) Tryz.func112 rfl Tryz.ntmps112 (by simp) ?_
 refine qC [0, 1, 2] ?_
 iterate 2 refine gx ?_
 refine qB (qA rfl) rfl (qN rfl agg78 rfl (qk hc.s hc.h1 qE)) ?_
 iterate 5 refine gx ?_
 refine TC.loopW (ι := Nat × World) (fun y => y.2) (fun y => [(0, .func (.yield l) #[] #[]), (1, .pointer (some ⟨p1, 0, none⟩)), (2, .pointer (some ⟨p2, 0, none⟩)), (6, .slice (some ⟨gt, 0, none⟩) m m), (7, .int .i64 (m : Int)), (8, .int .i64 (y.1 : Int))]) (fun y => []) (fun y => m - y.1) (fun y => y.1 ≤ m ∧ J (cntT Ts q y.1) y.2 ∧ CapT y.2 p1 p2 gt m Ts q ∧ W.heap.size ≤ y.2.heap.size) (0, W) ⟨Nat.zero_le _, hJ0, hc, Nat.le_refl _⟩ (qJ (i := 0) rfl (qJ (i := 1) rfl (qJ (i := 2) rfl (qR (i := 6) rfl rfl (by first | omega | (dsimp only; omega) | rfl) (by first | omega | (dsimp only; omega) | rfl) (qF (i := 7) rfl (by first | omega | rfl) (qF (i := 8) rfl rfl (qO))))))) (fun w h => h) (fun y hC0 => ?_)
 obtain ⟨k, v⟩ := y
 obtain ⟨hk, hj, hc, hsz⟩ := hC0
 dsimp only at hk hj hc hsz
 change TC _ _ _ v _ _ _
 have hc1 := hc.h1
 have hc2 := hc.h2
 have hc3 := hc.h3
 iterate 6 refine gx ?_
 refine qP rfl (fun hq0 => ?_) (fun hq0 => ?_)
 ·obtain ⟨x, hkx⟩ : ∃ x, Ts[k]? = some x := ⟨_, List.getElem?_eq_getElem (by have := hc.l; omega)⟩
  have hnx := hnum x (List.mem_of_getElem? hkx)
  iterate 6 refine gx ?_
  refine qB (qA rfl) rfl (qb rfl Tryz.underlying78 size83 rfl rfl (i := k) (by omega) (by omega) (off' := (3 * k)) (by omega)) ?_
  refine qB (qA rfl) rfl (qi rfl agg83 size83 rfl rfl (Row.old (fun jj u h => hc.row hkx h) hc.h3 qE)) ?_
  refine qZ (fun g1 hg1 => ?_)
  iterate 3 refine gx ?_
  refine qC [0, 1, 2, 5, 6, 7, 8] ?_
  iterate 4 refine gx ?_
  refine qB (qA rfl) rfl (qN rfl agg3 rfl (qk hc.x hc.h2 (qD (by show g1 ≠ p2; omega) qE))) ?_
  refine gx ?_
  by_cases hx : (x.x : Int) ≤ q
  ·refine qB (qA rfl) rfl (qV (qv rfl rfl) hx) ?_
   iterate 2 refine gx ?_
   refine qB (qI rfl rfl rfl) rfl (qi rfl agg81 size81 rfl (vs := [int .i64 x.o, int .i64 x.l]) rfl (Row.part (i := 0) (ent := ⟨g1, 83, [int .i64 x.o, int .i64 x.l, int .i64 (x.x : Int)], 3⟩) rfl rfl rfl)) ?_
   refine TL.yield rfl (qI rfl rfl rfl) rfl rfl rfl rfl (T := fun v1 => J (cntT Ts q k + 1) v1 ∧ CapT v1 p1 p2 gt m Ts q ∧ W.heap.size ≤ v1.heap.size) (U := fun v1 => Jx (cntT Ts q k + 1) v1) (fun w hs => up_yield (p := pr x) hJ hY (cntT_lt hkx hx) (cntT_yes hkx hx).2 hj hc hsz hs (by intro e he; rw [List.mem_singleton.1 he]; assumption)) (fun v1 hT => ?_) (fun v1 hU => ?_)
   ·obtain ⟨hj, hc, hsz⟩ := hT
    iterate 4 refine gx ?_
    refine qC [0, 1, 2, 6, 7, 8, 22] ?_
    refine qa rfl ?_
    iterate 4 refine gx ?_
    refine qB (qA rfl) rfl (qQ rfl rfl rfl (r := ((k : Int) + 1)) (w64 (by omega) (by omega))) ?_
    iterate 2 refine gx ?_
    exact TE.backW (k + 1, v1) (by show m - (k + 1) < m - k; omega) ⟨(by show k + 1 ≤ m; omega), (show J (cntT Ts q (k + 1)) v1 from by rw [(cntT_yes hkx hx).1]; exact hj), hc, hsz⟩ (qJ (i := 0) rfl (qJ (i := 1) rfl (qJ (i := 2) rfl (qR (i := 6) rfl rfl (by first | omega | (dsimp only; omega) | rfl) (by first | omega | (dsimp only; omega) | rfl) (qF (i := 7) rfl (by first | omega | rfl) (qF (i := 8) rfl rfl (qO))))))) (fun w h => h)
   ·iterate 4 refine gx ?_
    refine qC [0, 1, 2, 6, 7, 8, 22] ?_
    refine qd rfl ?_
    iterate 5 refine gx ?_
    exact TE.ret0 rfl (fun w hs => ⟨⟨_, rfl⟩, .inr ⟨cntT Ts q k, cntT_lt hkx hx, hJx _ _ _ hU (St.beside0 hs (by intro e he; cases he))⟩⟩)
  ·refine qB (qA rfl) rfl (qT (qv rfl rfl) hx) ?_
   iterate 8 refine gx ?_
   refine qC [0, 1, 2, 6, 7, 8, 22] ?_
   refine qa rfl ?_
   iterate 4 refine gx ?_
   refine qB (qA rfl) rfl (qQ rfl rfl rfl (r := ((k : Int) + 1)) (w64 (by omega) (by omega))) ?_
   iterate 2 refine gx ?_
   exact TE.backW (k + 1, v) (by show m - (k + 1) < m - k; omega) ⟨(by show k + 1 ≤ m; omega), (show J (cntT Ts q (k + 1)) v from by rw [cntT_no hkx hx]; exact hj), hc, hsz⟩ (qJ (i := 0) rfl (qJ (i := 1) rfl (qJ (i := 2) rfl (qR (i := 6) rfl rfl (by first | omega | (dsimp only; omega) | rfl) (by first | omega | (dsimp only; omega) | rfl) (qF (i := 7) rfl (by first | omega | rfl) (qF (i := 8) rfl rfl (qO))))))) (fun w h => (h.drop (by assumption)))
 ·iterate 4 refine gx ?_
  exact TE.end0 rfl (fun w hs => ⟨⟨_, rfl⟩, .inl (hJ _ _ _ (show J (upF Ts q).length v from by rw [← cntT_all (m := k) (by have := hc.l; omega)]; exact hj) (St.beside0 hs (by intro e he; cases he)))⟩)
theorem upTo_c (gt m : Nat) (q : Int) (w : World) : Calls Tryz.prog 92 #[.slice (some ⟨gt, 0, none⟩) m m, .int .i64 q] w fun e w' => ∃ y : Nat × Nat, e = .returned (.func (.func 112) #[] #[.pointer (some ⟨y.1, 0, none⟩), .pointer (some ⟨y.2, 0, none⟩)]) ∧ (w.heap.size ≤ y.1 ∧ w.heap.size ≤ y.2) ∧ St w [⟨y.1, 78, [slice (some ⟨gt, 0, none⟩) m m], 1⟩, ⟨y.2, 3, [int .i64 q], 1⟩] w' := by
 refine qM (args := [.slice (some ⟨gt, 0, none⟩) m m, .int .i64 q]) Tryz.func92 rfl Tryz.ntmps92 (by simp) ?_
 refine qC [0, 1] ?_
 iterate 2 refine gx ?_
 refine TL.bx1 (fun g1 hg1 => ?_)
 refine TL.bx1 (fun g2 hg2 => ?_)
 iterate 5 refine gx ?_
 refine qB (qA rfl) rfl (Gets.makeFunc rfl rfl rfl) ?_
 iterate 4 refine gx ?_
 exact qK rfl rfl (fun w hs => ⟨(g1, g2), rfl, ⟨by assumption, by assumption⟩, hs.perm (List.Perm.swap _ _ _)⟩)
theorem overlap_c (p1 p2 gt m : Nat) (Ts : List TV) (q : Int) (hq : -9223372036854775808 ≤ q ∧ q ≤ 9223372036854775807) (hm : m ≤ 1000000000) (hnum : ∀ t ∈ Ts, (-9223372036854775808 ≤ t.o ∧ t.o ≤ 9223372036854775807) ∧ (-9223372036854775808 ≤ t.l ∧ t.l ≤ 9223372036854775807) ∧ t.x ≤ 9223372036854775807) (n : Int) (hn0 : 0 ≤ n ∧ n ≤ 4611686018427387903) (hpos : posF (upF Ts q)) (hend : ∀ p ∈ upF Ts q, p.1 + p.2 ≤ n) (w : World) (hc : CapT w p1 p2 gt m Ts q) : Calls Tryz.prog 91 #[.func (.func 112) #[] #[.pointer (some ⟨p1, 0, none⟩), .pointer (some ⟨p2, 0, none⟩)]] w fun e w' => e = .returned (.bool (decide (ovF (upF Ts q)))) ∧ St w [] w' := by
 have hc1 := hc.h1
 have hc2 := hc.h2
 have hc3 := hc.h3
 refine calls_fromM (args := [.func (.func 112) #[] #[.pointer (some ⟨p1, 0, none⟩), .pointer (some ⟨p2, 0, none⟩)]]) Tryz.func91 rfl Tryz.ntmps91 (by simp) ?_
 refine qC [0] ?_
 iterate 2 refine gx ?_
 refine qZ (fun g1 hg1 => ?_)
 iterate 4 refine gx ?_
 refine qZ (fun g2 hg2 => ?_)
 refine qz (qA rfl) rfl rfl size3 rfl rfl rfl (i := 0) rfl rfl (by simp [] <;> omega) (cs' := [int .i64 0]) (rfl) (H' := [⟨g2, 3, [int .i64 0], 1⟩, ⟨g1, 4, [Value.bool false], 1⟩]) rfl ?_
 iterate 9 refine gx ?_
 refine TC.range (V := fun i => .agg ([int .i64 ((eP (upF Ts q) i).1), int .i64 ((eP (upF Ts q) i).2)]).toArray) (N := (upF Ts q).length) (c := 0) (Cap := capK p1 p2 gt) rfl rfl rfl rfl enters112 (fun w hs => upTo_iter p1 p2 gt m Ts q hq hm hnum w (hc.at_ hs (fun b hb => (qD (by show g2 ≠ b; omega) (qD (by show g1 ≠ b; omega) qE))))) (fun i => ∀ j r, j < i → (upF Ts q)[j]? = some r → endF (upF Ts q) j ≤ r.1) (fun i => [⟨g2, 3, [int .i64 (endF (upF Ts q) i)], 1⟩, ⟨g1, 4, [Value.bool false], 1⟩]) [] (fun i y => [(2, .pointer (some ⟨g1, 0, none⟩)), (3, .pointer (some ⟨g2, 0, none⟩)), (4, .pointer (some ⟨y, 0, none⟩))]) (fun i y => [⟨y, 81, [int .i64 ((eP (upF Ts q) i).1), int .i64 ((eP (upF Ts q) i).2)], 2⟩]) (fun i => ovF (upF Ts q)) (fun i => [⟨g2, 3, [int .i64 (endF (upF Ts q) (i - 1))], 1⟩, ⟨g1, 4, [Value.bool true], 1⟩]) 0 (fun i => False) (fun i => [⟨g2, 3, [int .i64 (endF (upF Ts q) i)], 1⟩, ⟨g1, 4, [Value.bool false], 1⟩]) (fun j r h => absurd h (Nat.not_lt_zero j)) (fun w h => h) (fun _ => rfl) (fun _ => rfl) (fun _ => rfl) (fun w hs k hk => ⟨Nat.lt_of_lt_of_le (hc.lt hk) hs.size, (have hb := hc.lt hk; (qD (by show g2 ≠ k; omega) (qD (by show g1 ≠ k; omega) qE)))⟩) (fun i y e he => by rw [List.mem_singleton.1 he]; exact Nat.le_refl _) (fun l i v hiN hC hs0 => ?_) (fun l i y v hiN hC hy hyv hs0 => ?_) (fun D W hC hW hM => ?_) (fun D W i hiN hC hW hM => ?_) (fun D W i hiN hC hW hM => ?_)
 ·refine TC.sub (qJ (i := 2) rfl (qJ (i := 3) rfl (qJ (i := 6) rfl (qO)))) ?_
  refine gx ?_
  refine qZ (fun g3 hg3 => ?_)
  iterate 2 refine gx ?_
  exact TE.ax g3 hg3 (fun w hs => Nat.le_of_lt (hs.has _ List.mem_cons_self).lt) (qJ (i := 2) rfl (qJ (i := 3) rfl (qJ (i := 4) rfl (qO)))) (fun w h => h)
 ·have hqq := eP_at hiN
  have hqp := hpos _ (List.mem_of_getElem? hqq)
  have hqn := hend _ (List.mem_of_getElem? hqq)
  have heb := endF_bd hpos hend hn0.1 i
  iterate 10 refine gx ?_
  refine qP rfl (fun hq0 => ?_) (fun hq0 => ?_)
  ·iterate 2 refine gx ?_
   refine qz (qA rfl) rfl rfl size4 rfl rfl rfl (i := 2) rfl rfl (by simp [] <;> omega) (cs' := [Value.bool true]) (rfl) (H' := [⟨y, 81, [int .i64 ((eP (upF Ts q) i).1), int .i64 ((eP (upF Ts q) i).2)], 2⟩, ⟨g2, 3, [int .i64 (endF (upF Ts q) i)], 1⟩, ⟨g1, 4, [Value.bool true], 1⟩]) rfl ?_
   iterate 5 refine gx ?_
   exact TE.roundR ⟨i, _, hqq, hq0⟩ [⟨y, 81, [int .i64 ((eP (upF Ts q) i).1), int .i64 ((eP (upF Ts q) i).2)], 2⟩] (by intro e he; simp only [List.mem_cons, List.not_mem_nil, or_false] at he; subst he; first | exact Nat.le_refl _ | (dsimp only; omega)) (fun w h => h)
  ·iterate 4 refine gx ?_
   refine qL (qA rfl) rfl enters72 rfl rfl (v := .int .i64 (((eP (upF Ts q) i).1) + ((eP (upF Ts q) i).2))) (fun w hs => end_c ((eP (upF Ts q) i).1) ((eP (upF Ts q) i).2) (by omega) w) ?_
   refine qz (qA rfl) rfl rfl size3 rfl rfl rfl (i := 1) rfl rfl (by simp [] <;> omega) (cs' := [int .i64 (((eP (upF Ts q) i).1) + ((eP (upF Ts q) i).2))]) (rfl) (H' := [⟨y, 81, [int .i64 ((eP (upF Ts q) i).1), int .i64 ((eP (upF Ts q) i).2)], 2⟩, ⟨g2, 3, [int .i64 (((eP (upF Ts q) i).1) + ((eP (upF Ts q) i).2))], 1⟩, ⟨g1, 4, [Value.bool false], 1⟩]) rfl ?_
   iterate 2 refine gx ?_
   exact TE.roundN (nov_succ hC hqq hq0) [⟨y, 81, [int .i64 ((eP (upF Ts q) i).1), int .i64 ((eP (upF Ts q) i).2)], 2⟩] (by intro e he; simp only [List.mem_cons, List.not_mem_nil, or_false] at he; subst he; first | exact Nat.le_refl _ | (dsimp only; omega)) (fun w h => by rw [endF_succ hqq]; exact h)
 ·have hno := nov_end hC
  iterate 4 refine gx ?_
  refine qz (qA rfl) rfl rfl size4 rfl rfl rfl (i := 1) rfl rfl (by simp [] <;> omega) (cs' := [Value.bool false]) (rfl) (H' := [⟨g2, 3, [int .i64 (endF (upF Ts q) ((upF Ts q).length))], 1⟩, ⟨g1, 4, [Value.bool false], 1⟩]) rfl ?_
  iterate 3 refine gx ?_
  refine TE.markR hM hW (by intro e he; simp only [List.mem_cons, List.not_mem_nil, or_false, List.cons_append, List.nil_append, List.append_nil] at he; rcases he with rfl | rfl <;> (first | assumption | (dsimp only; omega))) (by intro e he; simp only [List.mem_cons, List.not_mem_nil, or_false, List.cons_append, List.nil_append, List.append_nil] at he; rcases he with rfl | rfl <;> (first | exact .inr (by simp) | exact .inl (by assumption) | exact .inl (by dsimp only; omega))) ?_ (.inl rfl)
  exact TE.retC1 rfl agg4 rfl (qW (i := 1) (ent := ⟨g1, 4, [Value.bool false], 1⟩) (off := 0) rfl rfl (by exact rfl)) (fun w hs => ⟨dec_f hno, ((hs.drop (by assumption)).drop (by assumption))⟩) (.inl rfl)
 ·iterate 2 refine gx ?_
  refine TE.markR hM hW (by intro e he; simp only [List.mem_cons, List.not_mem_nil, or_false, List.cons_append, List.nil_append, List.append_nil] at he; rcases he with rfl | rfl <;> (first | assumption | (dsimp only; omega))) (by intro e he; simp only [List.mem_cons, List.not_mem_nil, or_false, List.cons_append, List.nil_append, List.append_nil] at he; rcases he with rfl | rfl <;> (first | exact .inr (by simp) | exact .inl (by assumption) | exact .inl (by dsimp only; omega))) ?_ (.inl rfl)
  exact TE.retC1 rfl agg4 rfl (qW (i := 1) (ent := ⟨g1, 4, [Value.bool true], 1⟩) (off := 0) rfl rfl (by exact rfl)) (fun w hs => ⟨dec_t hC, ((hs.drop (by assumption)).drop (by assumption))⟩) (.inl rfl)
 ·exact hC.elim
theorem gap_c (p1 p2 gt m : Nat) (Ts : List TV) (q : Int) (hq : -9223372036854775808 ≤ q ∧ q ≤ 9223372036854775807) (hm : m ≤ 1000000000) (hnum : ∀ t ∈ Ts, (-9223372036854775808 ≤ t.o ∧ t.o ≤ 9223372036854775807) ∧ (-9223372036854775808 ≤ t.l ∧ t.l ≤ 9223372036854775807) ∧ t.x ≤ 9223372036854775807) (n : Int) (hn0 : 0 ≤ n ∧ n ≤ 4611686018427387903) (hpos : posF (upF Ts q)) (hend : ∀ p ∈ upF Ts q, p.1 + p.2 ≤ n) (w : World) (hc : CapT w p1 p2 gt m Ts q) : Calls Tryz.prog 93 #[.func (.func 112) #[] #[.pointer (some ⟨p1, 0, none⟩), .pointer (some ⟨p2, 0, none⟩)]] w fun e w' => ∃ z : Int, e = .returned (.int .i64 z) ∧ gapR (upF Ts q) z ∧ St w [] w' := by
 have hc1 := hc.h1
 have hc2 := hc.h2
 have hc3 := hc.h3
 refine calls_fromM (args := [.func (.func 112) #[] #[.pointer (some ⟨p1, 0, none⟩), .pointer (some ⟨p2, 0, none⟩)]]) Tryz.func93 rfl Tryz.ntmps93 (by simp) ?_
 refine qC [0] ?_
 iterate 7 refine gx ?_
 refine qZ (fun g1 hg1 => ?_)
 refine qz (qA rfl) rfl rfl size3 rfl rfl rfl (i := 0) rfl rfl (by simp [] <;> omega) (cs' := [int .i64 0]) (rfl) (H' := [⟨g1, 3, [int .i64 0], 1⟩]) rfl ?_
 iterate 9 refine gx ?_
 refine TC.range (V := fun i => .agg ([int .i64 ((eP (upF Ts q) i).1), int .i64 ((eP (upF Ts q) i).2)]).toArray) (N := (upF Ts q).length) (c := 0) (Cap := capK p1 p2 gt) rfl rfl rfl rfl enters112 (fun w hs => upTo_iter p1 p2 gt m Ts q hq hm hnum w (hc.at_ hs (fun b hb => (qD (by show g1 ≠ b; omega) qE)))) (fun i => ∀ j r, j < i → (upF Ts q)[j]? = some r → r.1 ≤ endF (upF Ts q) j) (fun i => [⟨g1, 3, [int .i64 (endF (upF Ts q) i)], 1⟩]) [] (fun i y => [(3, .pointer (some ⟨g1, 0, none⟩)), (4, .pointer (some ⟨y, 0, none⟩))]) (fun i y => [⟨y, 81, [int .i64 ((eP (upF Ts q) i).1), int .i64 ((eP (upF Ts q) i).2)], 2⟩]) (fun i => False) (fun i => [⟨g1, 3, [int .i64 (endF (upF Ts q) i)], 1⟩]) 0 (fun i => gapR (upF Ts q) (endF (upF Ts q) (i - 1))) (fun i => [⟨g1, 3, [int .i64 (endF (upF Ts q) (i - 1))], 1⟩]) (fun j r h => absurd h (Nat.not_lt_zero j)) (fun w h => h) (fun _ => rfl) (fun _ => rfl) (fun _ => rfl) (fun w hs k hk => ⟨Nat.lt_of_lt_of_le (hc.lt hk) hs.size, (have hb := hc.lt hk; (qD (by show g1 ≠ k; omega) qE))⟩) (fun i y e he => by rw [List.mem_singleton.1 he]; exact Nat.le_refl _) (fun l i v hiN hC hs0 => ?_) (fun l i y v hiN hC hy hyv hs0 => ?_) (fun D W hC hW hM => ?_) (fun D W i hiN hC hW hM => ?_) (fun D W i hiN hC hW hM => ?_)
 ·refine TC.sub (qJ (i := 3) rfl (qJ (i := 6) rfl (qO))) ?_
  refine gx ?_
  refine qZ (fun g2 hg2 => ?_)
  iterate 2 refine gx ?_
  exact TE.ax g2 hg2 (fun w hs => Nat.le_of_lt (hs.has _ List.mem_cons_self).lt) (qJ (i := 3) rfl (qJ (i := 4) rfl (qO))) (fun w h => h)
 ·have hqq := eP_at hiN
  have hqp := hpos _ (List.mem_of_getElem? hqq)
  have hqn := hend _ (List.mem_of_getElem? hqq)
  have heb := endF_bd hpos hend hn0.1 i
  iterate 10 refine gx ?_
  refine qP rfl (fun hq0 => ?_) (fun hq0 => ?_)
  ·iterate 2 refine gx ?_
   refine TE.blockY rfl ?_
   exact TE.roundB ⟨i, Nat.le_of_lt hiN, rfl, hC, .inr ⟨_, hqq, hq0⟩⟩ [⟨y, 81, [int .i64 ((eP (upF Ts q) i).1), int .i64 ((eP (upF Ts q) i).2)], 2⟩] (by intro e he; simp only [List.mem_cons, List.not_mem_nil, or_false] at he; subst he; first | exact Nat.le_refl _ | (dsimp only; omega)) (fun w h => h)
  ·iterate 4 refine gx ?_
   refine qL (qA rfl) rfl enters72 rfl rfl (v := .int .i64 (((eP (upF Ts q) i).1) + ((eP (upF Ts q) i).2))) (fun w hs => end_c ((eP (upF Ts q) i).1) ((eP (upF Ts q) i).2) (by omega) w) ?_
   refine qz (qA rfl) rfl rfl size3 rfl rfl rfl (i := 1) rfl rfl (by simp [] <;> omega) (cs' := [int .i64 (((eP (upF Ts q) i).1) + ((eP (upF Ts q) i).2))]) (rfl) (H' := [⟨y, 81, [int .i64 ((eP (upF Ts q) i).1), int .i64 ((eP (upF Ts q) i).2)], 2⟩, ⟨g1, 3, [int .i64 (((eP (upF Ts q) i).1) + ((eP (upF Ts q) i).2))], 1⟩]) rfl ?_
   iterate 2 refine gx ?_
   exact TE.roundN (ngap_succ hC hqq hq0) [⟨y, 81, [int .i64 ((eP (upF Ts q) i).1), int .i64 ((eP (upF Ts q) i).2)], 2⟩] (by intro e he; simp only [List.mem_cons, List.not_mem_nil, or_false] at he; subst he; first | exact Nat.le_refl _ | (dsimp only; omega)) (fun w h => by rw [endF_succ hqq]; exact h)
 ·have hG : gapR (upF Ts q) (endF (upF Ts q) (upF Ts q).length) := ⟨_, Nat.le_refl _, rfl, hC, .inl rfl⟩
  iterate 9 refine gx ?_
  refine TE.markR hM hW (by intro e he; simp only [List.mem_cons, List.not_mem_nil, or_false, List.cons_append, List.nil_append, List.append_nil] at he; subst he; first | assumption | (dsimp only; omega)) (by intro e he; simp only [List.mem_cons, List.not_mem_nil, or_false, List.cons_append, List.nil_append, List.append_nil] at he; subst he; first | exact .inr (by simp) | exact .inl (by assumption) | exact .inl (by dsimp only; omega)) ?_ (.inl rfl)
  exact qK rfl rfl (fun w hs => ⟨_, rfl, hG, (hs.drop (by assumption))⟩)
 ·exact hC.elim
 ·have hG : gapR (upF Ts q) (endF (upF Ts q) i) := hC
  iterate 9 refine gx ?_
  refine TE.markR hM hW (by intro e he; simp only [List.mem_cons, List.not_mem_nil, or_false, List.cons_append, List.nil_append, List.append_nil] at he; subst he; first | assumption | (dsimp only; omega)) (by intro e he; simp only [List.mem_cons, List.not_mem_nil, or_false, List.cons_append, List.nil_append, List.append_nil] at he; subst he; first | exact .inr (by simp) | exact .inl (by assumption) | exact .inl (by dsimp only; omega)) ?_ (.inl rfl)
  exact qK rfl rfl (fun w hs => ⟨_, rfl, hG, (hs.drop (by assumption))⟩)
end Go.Proofs.YtegddcklbmonfaaGreatDoor
