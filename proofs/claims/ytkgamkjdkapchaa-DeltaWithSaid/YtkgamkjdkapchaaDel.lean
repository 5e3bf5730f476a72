/-
  Mathematics of deltas, no program in it: targets that do not overlap and cover an interval: the smallest gap, sums of lengths, the sorted order.
-/
import Derived.Below
namespace Go.Proofs.Ytkgamkjdkapchaa
set_option linter.unusedVariables false
set_option linter.unusedSimpArgs false
/-- A target: where it begins, how long it is. -/
def hasB (p : Int × Int) (x : Int) : Prop := p.1 ≤ x ∧ x < p.1 + p.2
instance (p : Int × Int) (x : Int) : Decidable (hasB p x) := by unfold hasB; infer_instance
def okT (a N : Int) (p : Int × Int) : Prop := a ≤ p.1 ∧ 1 ≤ p.2 ∧ p.1 + p.2 ≤ N
def apartT (p q : Int × Int) : Prop := p.1 + p.2 ≤ q.1 ∨ q.1 + q.2 ≤ p.1
theorem apartT.symm {p q : Int × Int} (h : apartT p q) : apartT q p := Or.symm h
/-- All targets are valid, and no two overlap. -/
def tidyT (a N : Int) (l : List (Int × Int)) : Prop := (∀ p ∈ l, okT a N p) ∧ l.Pairwise apartT
def coverT (a N : Int) (l : List (Int × Int)) : Prop := ∀ x, a ≤ x → x < N → ∃ p ∈ l, hasB p x
def freeT (l : List (Int × Int)) (x : Int) : Prop := ∀ p ∈ l, ¬ hasB p x
theorem apartT_iff {p q : Int × Int} (hp : 1 ≤ p.2) (hq : 1 ≤ q.2) : apartT p q ↔ ∀ x, ¬ (hasB p x ∧ hasB q x) := by
  unfold apartT hasB
  constructor
  · intro h x hx; omega
  · intro h
    have h1 := h p.1
    have h2 := h q.1
    omega
/-! ### The smallest gap -/
def candT (l : List (Int × Int)) (c : Int) : Prop := c = 0 ∨ ∃ p ∈ l, c = p.1 + p.2
theorem cand_below {l : List (Int × Int)} {x : Int} (hx : freeT l x) : ∀ (n : Nat) (c : Int), candT l c → 0 ≤ c → c ≤ x → x - c ≤ n → ∃ g, candT l g ∧ freeT l g ∧ c ≤ g ∧ g ≤ x
  | n, c, hc, h0, h1, h2 => by
    by_cases hf : freeT l c
    · exact ⟨c, hc, hf, by omega, h1⟩
    · obtain ⟨p, hp, hb⟩ : ∃ p ∈ l, hasB p c := by
        apply Classical.byContradiction
        intro hno
        exact hf fun p hp hb => hno ⟨p, hp, hb⟩
      have hxp := hx p hp
      unfold hasB at hb hxp
      match n, h2 with
      | 0, h2 => exfalso; omega
      | n + 1, h2 =>
        obtain ⟨g, hg1, hg2, hg3, hg4⟩ := cand_below hx n (p.1 + p.2) (.inr ⟨p, hp, rfl⟩) (by omega) (by omega) (by omega)
        exact ⟨g, hg1, hg2, by omega, hg4⟩
/-- Below each free offset lies a free one that is 0 or an end. -/
theorem cand_of_free {l : List (Int × Int)} {x : Int} (h0 : 0 ≤ x) (hx : freeT l x) : ∃ g, candT l g ∧ freeT l g ∧ 0 ≤ g ∧ g ≤ x := by
  obtain ⟨g, h1, h2, h3, h4⟩ := cand_below hx x.toNat 0 (.inl rfl) (by omega) h0 (by omega)
  exact ⟨g, h1, h2, h3, h4⟩
/-- The smallest free offset. -/
def leastT (N : Int) (l : List (Int × Int)) (g : Int) : Prop := 0 ≤ g ∧ g < N ∧ freeT l g ∧ ∀ x, 0 ≤ x → x < g → ¬ freeT l x
theorem leastT_unique {N g h : Int} {l : List (Int × Int)} (hg : leastT N l g) (hh : leastT N l h) : g = h := by
  obtain ⟨g1, g2, g3, g4⟩ := hg
  obtain ⟨h1, h2, h3, h4⟩ := hh
  have a : ¬ h < g := fun c => g4 h h1 c h3
  have b : ¬ g < h := fun c => h4 g g1 c g3
  omega
theorem leastT_of_cand {N g : Int} {l : List (Int × Int)} (h0 : 0 ≤ g) (hN : g < N) (hf : freeT l g) (hm : ∀ c, candT l c → 0 ≤ c → c < N → freeT l c → g ≤ c) : leastT N l g := by
  refine ⟨h0, hN, hf, fun x hx hxg hfx => ?_⟩
  obtain ⟨c, h1, h2, h3, h4⟩ := cand_of_free hx hfx
  have := hm c h1 h3 (by omega) h2
  omega
theorem cover_of_cand {N : Int} {l : List (Int × Int)} (hm : ∀ c, candT l c → 0 ≤ c → c < N → ¬ freeT l c) : coverT 0 N l := fun x hx hxN => by
  apply Classical.byContradiction
  intro hno
  obtain ⟨c, h1, h2, h3, h4⟩ := cand_of_free (l := l) hx (fun p hp hb => hno ⟨p, hp, hb⟩)
  exact hm c h1 h3 (by omega) h2
/-! ### Sorted -/
def sumT (l : List (Int × Int)) : Int := (l.map (·.2)).sum
theorem sumT_cons (p : Int × Int) (l : List (Int × Int)) : sumT (p :: l) = p.2 + sumT l := by simp [sumT]
theorem sumT_app (l r : List (Int × Int)) : sumT (l ++ r) = sumT l + sumT r := by simp [sumT]
theorem sumT_perm {l r : List (Int × Int)} (h : l.Perm r) : sumT l = sumT r := by
  induction h with
  | nil => rfl
  | cons p _ ih => rw [sumT_cons, sumT_cons, ih]
  | swap p q l => rw [sumT_cons, sumT_cons, sumT_cons, sumT_cons]; omega
  | trans _ _ ih1 ih2 => rw [ih1, ih2]
/-- Each target begins where the one before it ends. -/
def chainT (a : Int) : List (Int × Int) → Prop
  | [] => True
  | p :: l => p.1 = a ∧ chainT (a + p.2) l
theorem chain_of_sorted {N : Int} : ∀ {l : List (Int × Int)} {a : Int}, a ≤ N → tidyT a N l → coverT a N l → l.Pairwise (fun p q => p.1 ≤ q.1) → chainT a l ∧ a + sumT l = N
  | [], a, haN, ht, hc, _ => by
    refine ⟨trivial, ?_⟩
    have : ¬ a < N := fun h => by
      obtain ⟨p, hp, _⟩ := hc a (Int.le_refl a) h
      cases hp
    simp [sumT]; omega
  | p :: l, a, haN, ht, hc, hs => by
    obtain ⟨hok, hap⟩ := ht
    have hp := hok p List.mem_cons_self
    unfold okT at hp
    obtain ⟨q, hq, hb⟩ := hc a (Int.le_refl a) (by omega)
    have hqok := hok q hq
    unfold okT at hqok
    unfold hasB at hb
    have hpa : p.1 = a := by
      rcases List.mem_cons.1 hq with rfl | hq
      · omega
      · have := (List.pairwise_cons.1 hs).1 q hq
        omega
    have hall := (List.pairwise_cons.1 hap).1
    have hrec := chain_of_sorted (N := N) (l := l) (a := a + p.2) (by omega) ⟨fun q hq => by
        have h1 := hok q (by simp [hq])
        have h2 := hall q hq
        have h3 := (List.pairwise_cons.1 hs).1 q hq
        unfold okT at h1 ⊢
        unfold apartT at h2
        omega, (List.pairwise_cons.1 hap).2⟩ (fun x hx hxN => by
        obtain ⟨q, hq, hb⟩ := hc x (by omega) hxN
        rcases List.mem_cons.1 hq with rfl | hq
        · unfold hasB at hb; omega
        · exact ⟨q, hq, hb⟩) (List.pairwise_cons.1 hs).2
    rw [sumT_cons]
    exact ⟨⟨hpa, hrec.1⟩, by omega⟩
/-- The other way round. -/
theorem tidy_of_chain {N : Int} : ∀ {l : List (Int × Int)} {a : Int}, (∀ p ∈ l, 1 ≤ p.2) → chainT a l → a + sumT l = N → tidyT a N l ∧ coverT a N l ∧ l.Pairwise (fun p q => p.1 < q.1)
  | [], a, _, _, hs => ⟨⟨by simp, .nil⟩, fun x h1 h2 => by simp [sumT] at hs; omega, .nil⟩
  | p :: l, a, hl, hc, hs => by
    obtain ⟨hp, hc⟩ := hc
    rw [sumT_cons] at hs
    have h1 := hl p List.mem_cons_self
    obtain ⟨⟨r1, r2⟩, r3, r4⟩ := tidy_of_chain (N := N) (l := l) (a := a + p.2) (fun q hq => hl q (by simp [hq])) hc (by omega)
    have hge : 0 ≤ sumT l := by
      have : ∀ l : List (Int × Int), (∀ p ∈ l, 1 ≤ p.2) → 0 ≤ sumT l := fun l => by
        induction l with
        | nil => intro _; simp [sumT]
        | cons q l ih => intro h; rw [sumT_cons]; have := h q List.mem_cons_self; have := ih (fun p hp => h p (by simp [hp])); omega
      exact this l (fun q hq => hl q (by simp [hq]))
    refine ⟨⟨fun q hq => ?_, .cons (fun q hq => ?_) r2⟩, fun x hx hxN => ?_, .cons (fun q hq => ?_) r4⟩
    · rcases List.mem_cons.1 hq with rfl | hq
      · unfold okT; omega
      · have := r1 q hq; unfold okT at this ⊢; omega
    · have := r1 q hq; unfold okT at this; unfold apartT; omega
    · by_cases hlt : x < a + p.2
      · exact ⟨p, List.mem_cons_self, by unfold hasB; omega⟩
      · obtain ⟨q, hq, hb⟩ := r3 x (by omega) hxN
        exact ⟨q, by simp [hq], hb⟩
    · have := r1 q hq; unfold okT at this; omega
theorem tidyT.perm {a N : Int} {l r : List (Int × Int)} (h : tidyT a N l) (hp : l.Perm r) : tidyT a N r := ⟨fun p hr => h.1 p (hp.mem_iff.2 hr), h.2.perm hp apartT.symm⟩
theorem coverT.perm {a N : Int} {l r : List (Int × Int)} (h : coverT a N l) (hp : l.Perm r) : coverT a N r := fun x h1 h2 => by
  obtain ⟨p, hl, hb⟩ := h x h1 h2
  exact ⟨p, hp.mem_iff.1 hl, hb⟩
theorem freeT.perm {l r : List (Int × Int)} {x : Int} (h : freeT l x) (hp : l.Perm r) : freeT r x := fun p hr => h p (hp.mem_iff.2 hr)
/-- The lengths of targets that cover add up. -/
theorem sum_of_cover {a N : Int} {l : List (Int × Int)} (haN : a ≤ N) (ht : tidyT a N l) (hc : coverT a N l) : a + sumT l = N := by
  let r := l.mergeSort (fun p q => decide (p.1 ≤ q.1))
  have hp : r.Perm l := List.mergeSort_perm l _
  have hs : r.Pairwise (fun p q => decide (p.1 ≤ q.1) = true) := List.pairwise_mergeSort (by intro a b c h1 h2; simp at h1 h2 ⊢; omega) (by intro a b; simp; omega) l
  have := (chain_of_sorted haN (ht.perm hp.symm) (hc.perm hp.symm) (hs.imp (by intro p q h; simpa using h))).2
  rw [← sumT_perm hp]; exact this
/-- Without one target, its begin is the smallest gap. -/
theorem least_without {N : Int} {l r : List (Int × Int)} {p : Int × Int} (ht : tidyT 0 N (l ++ p :: r)) (hc : coverT 0 N (l ++ p :: r)) : leastT N (l ++ r) p.1 := by
  have hp := ht.1 p (by simp)
  unfold okT at hp
  have hap : ∀ q ∈ l ++ r, apartT p q := fun q hq => by
    have h2 := ht.2
    rw [List.pairwise_append] at h2
    rcases List.mem_append.1 hq with hq | hq
    · exact (h2.2.2 q hq p (by simp)).symm
    · exact (List.pairwise_cons.1 h2.2.1).1 q hq
  refine ⟨by omega, by omega, fun q hq hb => ?_, fun x hx hxp hf => ?_⟩
  · have h1 := hap q hq
    have h2 := ht.1 q (by simp at hq ⊢; rcases hq with h | h <;> simp [h])
    unfold apartT at h1; unfold okT at h2; unfold hasB at hb; omega
  · obtain ⟨q, hq, hb⟩ := hc x hx (by omega)
    have : q = p ∨ q ∈ l ++ r := by simp at hq ⊢; rcases hq with h | h | h <;> simp [h]
    rcases this with rfl | h
    · unfold hasB at hb; omega
    · exact hf q h hb
/-! ### One sorted order -/
section
variable {α : Type} (key : α → Int)
theorem sorted_unique : ∀ {l r : List α}, l.Pairwise (fun p q => key p < key q) → r.Pairwise (fun p q => key p < key q) → l.Perm r → l = r
  | [], r, _, _, h => (List.nil_perm.1 h).symm
  | p :: l, [], _, _, h => by have := h.length_eq; simp at this
  | p :: l, q :: r, hl, hr, h => by
    have e : p = q := by
      have h1 : p ∈ q :: r := h.mem_iff.1 List.mem_cons_self
      have h2 : q ∈ p :: l := h.mem_iff.2 List.mem_cons_self
      rcases List.mem_cons.1 h1 with h1 | h1
      · exact h1
      · rcases List.mem_cons.1 h2 with h2 | h2
        · exact h2.symm
        · have a := (List.pairwise_cons.1 hr).1 p h1
          have b := (List.pairwise_cons.1 hl).1 q h2
          omega
    subst e
    rw [sorted_unique (List.pairwise_cons.1 hl).2 (List.pairwise_cons.1 hr).2 (List.Perm.cons_inv h)]
/-- Where an element is put in: behind the last one that is not greater. -/
def insV (x : α) : List α → List α
  | [] => [x]
  | y :: l => if key x < key y ∧ (∀ z ∈ l, key x < key z) then x :: y :: l else y :: insV x l
theorem insV_perm (x : α) : ∀ l : List α, (insV key x l).Perm (x :: l)
  | [] => List.Perm.refl _
  | y :: l => by
    unfold insV
    split
    · exact List.Perm.refl _
    · exact (List.Perm.cons y (insV_perm x l)).trans (List.Perm.swap x y l)
end
theorem strict_of_apart {a N : Int} {l : List (Int × Int)} (h : tidyT a N l) (hs : l.Pairwise (fun p q => p.1 ≤ q.1)) : l.Pairwise (fun p q => p.1 < q.1) := by
  have h2 := h.2
  have h1 := h.1
  clear h
  induction l with
  | nil => exact .nil
  | cons p l ih =>
    obtain ⟨a1, a2⟩ := List.pairwise_cons.1 hs
    obtain ⟨b1, b2⟩ := List.pairwise_cons.1 h2
    refine .cons (fun q hq => ?_) (ih a2 b2 (fun q hq => h1 q (by simp [hq])))
    have c1 := a1 q hq
    have c2 := b1 q hq
    have c3 := h1 p List.mem_cons_self
    have c4 := h1 q (by simp [hq])
    unfold apartT at c2; unfold okT at c3 c4; omega
end Go.Proofs.Ytkgamkjdkapchaa
