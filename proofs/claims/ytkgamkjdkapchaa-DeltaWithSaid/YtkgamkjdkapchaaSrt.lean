/-
  Insertion: where a command is put into a sorted list of commands.
-/
import Derived.Test.YtkgamkjdkapchaaOwnS
namespace Go.Proofs.Ytkgamkjdkapchaa
set_option linter.unusedVariables false
set_option linter.unusedSimpArgs false
set_option linter.unusedVariables false
open Go Go.RowKit
theorem st_keep {w0 w : World} {A B C : List Ent} (h : St w0 (([] ++ A) ++ (B ++ C)) w) (hA : Fresh w0 A) (hB : Fresh w0 B) : St w0 ([] ++ C) w := by
  have hp : (([] ++ A) ++ (B ++ C)).Perm (C ++ (A ++ B)) := by
    rw [List.nil_append, ← List.append_assoc]; exact List.perm_append_comm
  exact St.left (H := C) (h.perm hp) (hA.app hB)
structure WS where
  i : Nat
  v : Value
  Es : List CV
  He : List Ent
def leC (x y : CV) : Prop := x.t ≤ y.t
def insC (Es : List CV) (q : Nat) (x : CV) : List CV := Es.take q ++ x :: Es.drop q
theorem insC_len (Es : List CV) (q : Nat) (x : CV) : (insC Es q x).length = Es.length + 1 := by
  unfold insC; simp only [List.length_append, List.length_take, List.length_cons, List.length_drop]; omega
theorem insC_perm (Es : List CV) (q : Nat) (x : CV) : (insC Es q x).Perm (x :: Es) := by
  have h := List.perm_middle (a := x) (l₁ := Es.take q) (l₂ := Es.drop q)
  rw [List.take_append_drop] at h
  exact h
theorem insC_sorted {Es : List CV} {q : Nat} {x : CV} (hs : Es.Pairwise leC) (h1 : ∀ (j : Nat) (y : CV), j < q → Es[j]? = some y → y.t ≤ x.t) (h2 : ∀ (j : Nat) (y : CV), q ≤ j → Es[j]? = some y → x.t < y.t) : (insC Es q x).Pairwise leC := by
  have hs' := hs
  rw [← List.take_append_drop q Es, List.pairwise_append] at hs'
  obtain ⟨a1, a2, a3⟩ := hs'
  have ht : ∀ y ∈ Es.take q, y.t ≤ x.t := fun y hy => by
    obtain ⟨j, hj⟩ := List.mem_iff_getElem?.1 hy
    rw [List.getElem?_take] at hj
    split at hj
    · exact h1 j y (by assumption) hj
    · cases hj
  have hd : ∀ y ∈ Es.drop q, x.t < y.t := fun y hy => by
    obtain ⟨j, hj⟩ := List.mem_iff_getElem?.1 hy
    rw [List.getElem?_drop] at hj
    exact h2 (q + j) y (by omega) hj
  unfold insC
  rw [List.pairwise_append]
  refine ⟨a1, .cons (fun y hy => by have := hd y hy; unfold leC; omega) a2, fun y hy z hz => ?_⟩
  rcases List.mem_cons.1 hz with rfl | hz
  · exact ht y hy
  · exact a3 y hy z hz
theorem head_le {Es : List CV} {q : Nat} {x y : CV} (hs : Es.Pairwise leC) (hy : Es[q]? = some y) (hle : y.t ≤ x.t) : ∀ (j : Nat) (z : CV), j < q + 1 → Es[j]? = some z → z.t ≤ x.t := fun j z hj hz => by
  by_cases e : j = q
  · subst e; rw [hz] at hy; cases hy; exact hle
  · obtain ⟨hq, rfl⟩ := List.getElem?_eq_some_iff.1 hy
    obtain ⟨hjl, rfl⟩ := List.getElem?_eq_some_iff.1 hz
    have := (List.pairwise_iff_getElem.1 hs) j q hjl hq (by omega)
    unfold leC at this; omega
theorem ins_perm {Es Cs : List CV} {i q : Nat} {x : CV} (hp : Es.Perm (Cs.take i)) (hx : Cs[i]? = some x) : (insC Es q x).Perm (Cs.take (i + 1)) := by
  rw [List.take_add_one, hx]
  refine (insC_perm Es q x).trans ?_
  refine (List.Perm.cons x hp).trans ?_
  exact (List.perm_append_comm (l₁ := [x]) (l₂ := Cs.take i))
theorem ins_own {N i q : Nat} {t : TypeId} {v : Value} {Es : List CV} {x : CV} {He : List Ent} (h : OwnS N t 5 v (0 + q + 1 + (i - q)) ((([] ++ flatC (Es.take q)) ++ cellsC x) ++ flatC (Es.drop q)) He) (hq : q ≤ i) : OwnS N t 5 v (i + 1) (flatC (insC Es q x)) He := by
  have e1 : 0 + q + 1 + (i - q) = i + 1 := by omega
  have e2 : (([] ++ flatC (Es.take q)) ++ cellsC x) ++ flatC (Es.drop q) = flatC (insC Es q x) := by
    unfold insC
    rw [flatC_app, List.nil_append, List.append_assoc]
    congr 1
  rw [e1, e2] at h; exact h
theorem OwnS.srcHead {N i c q : Nat} {A : Option Addr} {t : TypeId} {Es : List CV} {He : List Ent} {w : World} (h : OwnS N t 5 (.slice A i c) i (flatC Es) He) (hs : ∀ e ∈ He, e.lies w) (hq : q ≤ i) : SrcV w A q (flatC (Es.take q)) := by
  have hl : Es.length = i := by have := h.1; rw [flatC_len] at this; omega
  rcases h.2 with ⟨h1, h2, rfl⟩ | ⟨g, cap, h1, rfl, hN, hc, hm⟩
  · cases h1; exact .inl ⟨rfl, by omega⟩
  · cases h1
    obtain ⟨_, h3⟩ := h.srcC hs
    rcases h3 with h3 | ⟨b, off, h4, _, hr⟩
    · obtain rfl : q = 0 := by omega
      exact .inr ⟨_, rfl, fun j u hu => by simp [flatC] at hu⟩
    · cases h4
      have := SrcC.cut (i := 0) (l := q) hr hl (by omega)
      rw [List.drop_zero] at this
      exact this.srcV
theorem OwnS.srcCut {N i c q : Nat} {A : Option Addr} {t : TypeId} {Es : List CV} {He : List Ent} {w : World} (h : OwnS N t 5 (.slice A i c) i (flatC Es) He) (hs : ∀ e ∈ He, e.lies w) (hq : q ≤ i) : SrcV w (cutA A c q 5) (i - q) (flatC (Es.drop q)) := by
  have hl : Es.length = i := by have := h.1; rw [flatC_len] at this; omega
  rcases h.2 with ⟨h1, h2, rfl⟩ | ⟨g, cap, h1, rfl, hN, hc, hm⟩
  · cases h1
    refine .inl ⟨?_, by omega⟩
    unfold cutA; split <;> rfl
  · cases h1
    obtain ⟨_, h3⟩ := h.srcC hs
    by_cases hcq : c = q
    · have hnil : Es.drop q = [] := List.drop_of_length_le (by omega)
      rw [hnil]
      unfold cutA; rw [if_pos hcq]
      exact .inr ⟨_, rfl, fun j u hu => by simp [flatC] at hu⟩
    · rw [cut_is (o' := 0 + 5 * q) (by omega) (by omega)]
      rcases h3 with h3 | ⟨b, off, h4, _, hr⟩
      · have hnil : Es.drop q = [] := List.drop_of_length_le (by omega)
        rw [hnil]
        exact .inr ⟨_, rfl, fun j u hu => by simp [flatC] at hu⟩
      · cases h4
        have := SrcC.cut (i := q) (l := i - q) hr hl (by omega)
        rw [List.take_of_length_le (by rw [List.length_drop]; omega)] at this
        exact this.srcV
theorem SrcC.srcHead {w : World} {A : Option Addr} {m q : Nat} {Cs : List CV} (h : SrcC w A m Cs) (hq : q ≤ m) : SrcV w A q (flatC (Cs.take q)) := by
  rcases h.2 with rfl | ⟨b, off, rfl, hb, hr⟩
  · obtain rfl : q = 0 := by omega
    cases A with
    | none => exact .inl ⟨rfl, rfl⟩
    | some a => exact .inr ⟨a, rfl, fun j u hu => by simp [flatC] at hu⟩
  · have := SrcC.cut (i := 0) (l := q) hr h.1 (by omega)
    rw [List.drop_zero] at this
    exact this.srcV
theorem SrcC.srcCut {w : World} {A : Option Addr} {m c q : Nat} {Cs : List CV} (h : SrcC w A m Cs) (hmc : m ≤ c) (hq : q ≤ m) : SrcV w (cutA A c q 5) (m - q) (flatC (Cs.drop q)) := by
  by_cases hd : q = m
  · have hnil : Cs.drop q = [] := List.drop_of_length_le (by have := h.1; omega)
    rw [hnil]
    cases hA : cutA A c q 5 with
    | none => exact .inl ⟨rfl, by omega⟩
    | some a => exact .inr ⟨a, rfl, fun j u hu => by simp [flatC] at hu⟩
  · rcases h.2 with rfl | ⟨b, off, rfl, hb, hr⟩
    · omega
    · rw [cut_is (o' := off + 5 * q) (by omega) (by omega)]
      have := SrcC.cut (i := q) (l := m - q) hr h.1 (by omega)
      rw [List.take_of_length_le (by rw [List.length_drop]; have := h.1; omega)] at this
      exact this.srcV
theorem SrcC.srcAll {w : World} {A : Option Addr} {m : Nat} {Cs : List CV} (h : SrcC w A m Cs) : SrcV w A m (flatC Cs) := by
  have := h.srcHead (Nat.le_refl _)
  rwa [List.take_of_length_le (by have := h.1; omega)] at this
theorem st_keep2 {w0 w : World} {A B C D : List Ent} (h : St w0 ((A ++ B) ++ (C ++ D)) w) (hC : Fresh w0 C) : St w0 (A ++ (B ++ D)) w := by
  have hp : ((A ++ B) ++ (C ++ D)).Perm ((A ++ (B ++ D)) ++ C) := by
    simp only [List.append_assoc]
    exact List.Perm.append_left A (List.Perm.append_left B List.perm_append_comm)
  exact St.left (h.perm hp) hC
/-- Cells of a block. -/
theorem lies_srcV {w : World} {g t tot m : Nat} {cs : List Value} (h : Ent.lies ⟨g, t, cs, tot⟩ w) : SrcV w (some ⟨g, 0, none⟩) m cs := .inr ⟨_, rfl, fun j u hu => by
  rw [addr_add, Nat.zero_add]; exact h.cell hu⟩
/-- Sorted once: a delta without a fault has one sorted order. -/
theorem sorted_once {o n : Int} {Cs Es Fs : List CV} (hv : ValidC o n Cs) (h1 : Es.Perm Cs) (h2 : Fs.Perm Cs) (s1 : Es.Pairwise leC) (s2 : Fs.Pairwise leC) : Es = Fs := by
  have key : ∀ {l : List CV}, l.Perm Cs → l.Pairwise leC → l.Pairwise (fun p q => (tg p).1 < (tg q).1) := fun {l} hp hs => by
    have ht : tidyT 0 n (l.map tg) := hv.tidy.perm (hp.symm.map tg)
    have h := strict_of_apart ht (by rw [List.pairwise_map]; exact hs)
    rw [List.pairwise_map] at h; exact h
  exact sorted_unique (fun x => (tg x).1) (key h1 s1) (key h2 s2) (h1.trans h2.symm)
theorem ValidC.perm {o n : Int} {Cs Es : List CV} (h : ValidC o n Cs) (hp : Es.Perm Cs) : tidyT 0 n (Es.map tg) ∧ coverT 0 n (Es.map tg) ∧ sumT (Es.map tg) = n := ⟨h.tidy.perm (hp.symm.map tg), h.cover.perm (hp.symm.map tg), by rw [sumT_perm (hp.map tg)]; exact h.sum⟩
theorem ValidC.chain {o n : Int} {Cs Es : List CV} (h : ValidC o n Cs) (hp : Es.Perm Cs) (hs : Es.Pairwise leC) : chainT 0 (Es.map tg) ∧ sumT (Es.map tg) = n := by
  obtain ⟨h1, h2, h3⟩ := h.perm hp
  have h4 := h.len
  unfold okLen at h4
  exact ⟨(chain_of_sorted (N := n) (a := 0) (by omega) h1 h2 (by rw [List.pairwise_map]; exact hs)).1, h3⟩
end Go.Proofs.Ytkgamkjdkapchaa
