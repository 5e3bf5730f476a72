/-
  The reference: primes.
-/
import Derived.Test.YtdcphpmkhekghaaDoorShaU
namespace Go.Proofs.YtdcphpmkhekghaaDoor
set_option linter.unusedVariables false
set_option linter.unusedSimpArgs false
open Go Go.RowKit
theorem mk62 : (Tryd.prog.info? 62).map (fun i => (i.zero, i.size, i.bytes)) = some (some (.int .u64 0), 1, 8) := by kernel_rfl
theorem zero62 : (Tryd.prog.info? 62).bind (·.zero) = some (.int .u64 0) := by kernel_rfl

def okF (L : List Int) (p : Int) : Nat → Bool
  | 0 => true
  | j + 1 => if p % L.getD j 0 = 0 then false else okF L p j
def prS : Nat → List Int
  | 0 => []
  | k + 1 => if okF (prS k) ((k : Int) + 2) (prS k).length then prS k ++ [(k : Int) + 2] else prS k
theorem prS_two : ∀ k, ∀ x ∈ prS k, 2 ≤ x
  | 0 => by simp [prS]
  | k + 1 => by
    intro x hx
    unfold prS at hx
    split at hx
    · rcases List.mem_append.1 hx with hx | hx
      · exact prS_two k x hx
      · have := List.mem_singleton.1 hx; omega
    · exact prS_two k x hx
theorem prS_ne {k j : Nat} (h : j < (prS k).length) : (prS k).getD j 0 ≠ 0 := by
  have := prS_two k (prS k)[j] (List.getElem_mem h)
  rw [List.getD_eq_getElem?_getD, List.getElem?_eq_getElem h, Option.getD_some]
  omega
theorem prS_len : ∀ k, (prS k).length ≤ k
  | 0 => Nat.le_refl _
  | k + 1 => by
    have := prS_len k
    unfold prS
    split
    · simp; omega
    · omega
theorem prS_up (k : Nat) : (prS k).length ≤ (prS (k + 1)).length := by
  show _ ≤ (if okF (prS k) ((k : Int) + 2) (prS k).length then prS k ++ [(k : Int) + 2] else prS k).length
  split
  · simp
  · omega
theorem prS_mono : ∀ d k, (prS k).length ≤ (prS (k + d)).length
  | 0, _ => Nat.le_refl _
  | d + 1, k => Nat.le_trans (prS_mono d k) (prS_up (k + d))
theorem own_at {N : Nat} {t : TypeId} {kd : IntKind} {A : Option Addr} {m c : Nat} {W : List Int} {He : List Ent} (h : Own N t kd (.slice A m c) W He) (hm : 0 < m) : ∃ g, A = some ⟨g, 0, none⟩ ∧ He = [⟨g, t, W.map (Value.int kd), c⟩] ∧ N ≤ g ∧ W.length ≤ c ∧ c ≤ maxLen := by
  rcases h with ⟨h, _, _⟩ | ⟨g, cap, h, h2, h3, h4, h5⟩
  · cases h; omega
  · cases h; exact ⟨g, rfl, h2, h3, h4, h5⟩
theorem ok_yes {k : Nat} (h : okF (prS k) ((k : Int) + 2) (prS k).length = true) : prS (k + 1) = prS k ++ [(k : Int) + 2] := by
  rw [prS, if_pos h]
theorem ok_no {k : Nat} (h : okF (prS k) ((k : Int) + 2) (prS k).length = false) : prS (k + 1) = prS k := by
  rw [prS, if_neg (by rw [h]; simp)]

set_option maxRecDepth 100000 in
set_option maxHeartbeats 400000 in
theorem rprimes_k (n K : Nat) (w : World) (hn : n ≤ (prS K).length) (hKb : K ≤ 400) : Calls Tryd.prog 36 #[.int .i64 (n : Int)] w fun e w' => ∃ v He k, e = .returned v ∧ Own w.heap.size 62 .u64 v (prS k) He ∧ k ≤ K ∧ n ≤ (prS k).length ∧ St w He w' := by
  refine calls_from (args := [.int .i64 (n : Int)]) Tryd.func36 rfl Tryd.ntmps36 (by simp) ?_
  refine TC.sub (Sub.cons (i := 0) rfl (Sub.nil)) ?_
  refine TC.seq ?_
  refine TC.regionL ?_
  refine TL.gets (Wants.none rfl) rfl (Gets.assign rfl rfl) ?_
  refine TL.nil ?_
  refine TE.then ?_
  refine TC.seq ?_
  refine TC.regionL ?_
  refine TL.gets (Wants.none rfl) rfl (Gets.assign rfl rfl) ?_
  refine TL.nil ?_
  refine TE.then ?_
  refine TC.seq ?_
  refine TC.seq ?_
  refine TC.regionL ?_
  refine TL.gets (Wants.none rfl) rfl (Gets.assign rfl rfl) ?_
  refine TL.nil ?_
  refine TE.then ?_
  refine TC.block ?_
  refine TC.loop (ι := WV) (fun x => [(0, .int .i64 (n : Int)), (3, x.v), (4, .int .u64 ((x.k : Int) + 2))]) (fun x => [] ++ x.He) (fun x => K - x.k) (fun x => Own w.heap.size 62 .u64 x.v (prS x.k) x.He ∧ x.k ≤ K) (⟨0, .slice none 0 0, []⟩ : WV) ⟨Own.nil _ _ _, by show 0 ≤ K; omega⟩ (Sub.int (i := 0) rfl (by first | omega | rfl) (Sub.cons (i := 3) rfl (Sub.int (i := 4) rfl (by first | omega | rfl) (Sub.nil)))) (fun w h => h) (fun x hC0 => ?_)
  obtain ⟨k, v, He⟩ := x
  obtain ⟨hown, hC2⟩ := hC0
  dsimp only at hown hC2 ⊢
  obtain ⟨Av, cv, hv, hc1, hc2⟩ := hown.form
  subst hv
  have hpl := prS_len k
  refine TC.seq ?_
  refine TC.seq ?_
  refine TC.regionL ?_
  refine TL.gets (Wants.none rfl) rfl (Gets.move rfl rfl) ?_
  refine TL.gets (Wants.none rfl) rfl (Gets.lenSlice rfl Tryd.underlying65 rfl) ?_
  refine TL.gets (Wants.none rfl) rfl (Gets.move rfl rfl) ?_
  refine TL.gets (Wants.none rfl) rfl (Gets.lss rfl rfl rfl) ?_
  refine TL.nil ?_
  refine TE.then ?_
  refine TC.split rfl (fun hq0 => ?_) (fun hq0 => ?_)
  · have hkK : k ≠ K := fun h => by subst h; omega
    refine TC.skip ?_
    refine TE.then ?_
    refine TC.seq ?_
    refine TC.block ?_
    refine TC.seq ?_
    refine TC.regionL ?_
    refine TL.gets (Wants.none rfl) rfl (Gets.assign rfl rfl) ?_
    refine TL.nil ?_
    refine TE.then ?_
    refine TC.seq ?_
    refine TC.seq ?_
    refine TC.regionL ?_
    refine TL.gets (Wants.none rfl) rfl (Gets.assign rfl rfl) ?_
    refine TL.nil ?_
    refine TE.then ?_
    refine TC.sub (Sub.cons (i := 0) rfl (Sub.cons (i := 3) rfl (Sub.cons (i := 4) rfl (Sub.cons (i := 5) rfl (Sub.cons (i := 6) rfl (Sub.nil)))))) ?_
    refine TC.block ?_
    refine TC.loop (ι := Nat) (fun j => [(0, .int .i64 (n : Int)), (3, .slice Av (((prS k).length)) cv), (4, .int .u64 ((k : Int) + 2)), (5, .bool (okF (prS k) ((k : Int) + 2) j)), (6, .int .i64 (j : Int))]) (fun j => [] ++ He) (fun j => (prS k).length - j) (fun j => j ≤ (prS k).length) 0 (Nat.zero_le _) (Sub.int (i := 0) rfl (by first | omega | rfl) (Sub.slice (i := 3) rfl rfl (by first | omega | (dsimp only; omega) | rfl) (by first | omega | (dsimp only; omega) | rfl) (Sub.int (i := 4) rfl (by first | omega | rfl) (Sub.cons (i := 5) rfl (Sub.int (i := 6) rfl (by first | omega | rfl) (Sub.nil)))))) (fun w h => h) (fun j hC1 => ?_)
    refine TC.seq ?_
    refine TC.seq ?_
    refine TC.regionL ?_
    refine TL.gets (Wants.none rfl) rfl (Gets.move rfl rfl) ?_
    refine TL.gets (Wants.none rfl) rfl (Gets.move rfl rfl) ?_
    refine TL.gets (Wants.none rfl) rfl (Gets.lenSlice rfl Tryd.underlying65 rfl) ?_
    refine TL.gets (Wants.none rfl) rfl (Gets.lss rfl rfl rfl) ?_
    refine TL.nil ?_
    refine TE.then ?_
    refine TC.sub (Sub.cons (i := 0) rfl (Sub.cons (i := 3) rfl (Sub.cons (i := 4) rfl (Sub.cons (i := 5) rfl (Sub.cons (i := 6) rfl (Sub.cons (i := 16) rfl (Sub.nil))))))) ?_
    refine TC.split rfl (fun hq1 => ?_) (fun hq1 => ?_)
    · obtain ⟨g, hA, hHe, hN, hcc, hcm⟩ := own_at hown (by omega)
      subst hA; subst hHe
      refine TC.skip ?_
      refine TE.then ?_
      refine TC.seq ?_
      refine TC.block ?_
      refine TC.seq ?_
      refine TC.regionL ?_
      refine TL.gets (Wants.none rfl) rfl (Gets.move rfl rfl) ?_
      refine TL.gets (Wants.none rfl) rfl (Gets.move rfl rfl) ?_
      refine TL.gets (Wants.none rfl) rfl (Gets.move rfl rfl) ?_
      refine TL.gets (Wants.none rfl) rfl (Gets.idxSlice rfl Tryd.underlying65 size62 rfl rfl (i := j) (by omega) (by omega) (off' := j) (by omega)) ?_
      refine TL.gets (Wants.none rfl) rfl (Gets.load1 rfl agg62 rfl (At.ent (i := 0) (ent := ⟨g, 62, (prS k).map (Value.int .u64), cv⟩) (off := j) rfl rfl (by have := ints_get (kd := .u64) (W := (prS k)) (i := j) (by rw [(Eq.refl (prS k).length)]; omega); (first | exact this | (refine Eq.trans ?_ this; congr 1; omega))))) ?_
      refine TL.gets (Wants.none rfl) rfl (Gets.rem rfl rfl rfl (prS_ne (by omega)) (r := (((k : Int) + 2) % ((prS k).getD j 0))) (tmod_pos (by omega) rfl)) ?_
      refine TL.gets (Wants.none rfl) rfl (Gets.eql rfl rfl rfl) ?_
      refine TL.nil ?_
      refine TE.then ?_
      refine TC.sub (Sub.cons (i := 0) rfl (Sub.cons (i := 3) rfl (Sub.cons (i := 4) rfl (Sub.cons (i := 5) rfl (Sub.cons (i := 6) rfl (Sub.cons (i := 25) rfl (Sub.nil))))))) ?_
      refine TC.split rfl (fun hq2 => ?_) (fun hq2 => ?_)
      · refine TC.regionL ?_
        refine TL.gets (Wants.none rfl) rfl (Gets.assign rfl rfl) ?_
        refine TL.nil ?_
        refine TE.blockN ?_
        refine TE.then ?_
        refine TC.regionL ?_
        refine TL.gets (Wants.none rfl) rfl (Gets.move rfl rfl) ?_
        refine TL.gets (Wants.none rfl) rfl (Gets.add rfl rfl rfl (r := ((j : Int) + 1)) (w64 (by omega) (by omega))) ?_
        refine TL.gets (Wants.none rfl) rfl (Gets.assign rfl rfl) ?_
        refine TL.nil ?_
        exact TE.back (j + 1) (by omega) (by omega) (Sub.int (i := 0) rfl (by first | omega | rfl) (Sub.slice (i := 3) rfl (by first | rfl | (congr 2; omega)) (by first | omega | (dsimp only; omega) | rfl) (by first | omega | (dsimp only; omega) | rfl) (Sub.int (i := 4) rfl (by first | omega | rfl) (Sub.cons (i := 5) (by show look _ 5 = some (.bool (okF (prS k) ((k : Int) + 2) (j + 1))); first | (rw [show okF (prS k) ((k : Int) + 2) (j + 1) = false from if_pos hq2]; rfl) | (rw [show okF (prS k) ((k : Int) + 2) (j + 1) = okF (prS k) ((k : Int) + 2) j from if_neg hq2]; rfl)) (Sub.int (i := 6) rfl (by first | omega | rfl) (Sub.nil)))))) (fun w h => h)
      · refine TC.skip ?_
        refine TE.blockN ?_
        refine TE.then ?_
        refine TC.regionL ?_
        refine TL.gets (Wants.none rfl) rfl (Gets.move rfl rfl) ?_
        refine TL.gets (Wants.none rfl) rfl (Gets.add rfl rfl rfl (r := ((j : Int) + 1)) (w64 (by omega) (by omega))) ?_
        refine TL.gets (Wants.none rfl) rfl (Gets.assign rfl rfl) ?_
        refine TL.nil ?_
        exact TE.back (j + 1) (by omega) (by omega) (Sub.int (i := 0) rfl (by first | omega | rfl) (Sub.slice (i := 3) rfl (by first | rfl | (congr 2; omega)) (by first | omega | (dsimp only; omega) | rfl) (by first | omega | (dsimp only; omega) | rfl) (Sub.int (i := 4) rfl (by first | omega | rfl) (Sub.cons (i := 5) (by show look _ 5 = some (.bool (okF (prS k) ((k : Int) + 2) (j + 1))); first | (rw [show okF (prS k) ((k : Int) + 2) (j + 1) = false from if_pos hq2]; rfl) | (rw [show okF (prS k) ((k : Int) + 2) (j + 1) = okF (prS k) ((k : Int) + 2) j from if_neg hq2]; rfl)) (Sub.int (i := 6) rfl (by first | omega | rfl) (Sub.nil)))))) (fun w h => h)
    · obtain rfl : j = (prS k).length := by omega
      refine TC.exit ?_
      refine TE.thenX ?_
      refine TE.thenX ?_
      refine TE.blockX ?_
      refine TE.then ?_
      refine TC.seq ?_
      refine TC.regionL ?_
      refine TL.gets (Wants.none rfl) rfl (Gets.move rfl rfl) ?_
      refine TL.nil ?_
      refine TE.then ?_
      refine TC.splitB rfl (fun hq3 => ?_) (fun hq3 => ?_)
      · refine TC.regionL ?_
        refine TL.gets (Wants.none rfl) rfl (Gets.move rfl rfl) ?_
        refine TL.gets (Wants.none rfl) rfl (Gets.move rfl rfl) ?_
        refine TL.buildSlice (Wants.none rfl) rfl rfl Tryd.underlying65 size62 zero62 rfl (by decide) (by decide) (cells := #[.int .u64 ((k : Int) + 2)]) (tot := 1) (by kernel_rfl) (cs := [.int .u64 ((k : Int) + 2)]) rfl rfl (fun g1 hg1 => ?_)
        refine TL.appendOwn (H := [⟨g1, 62, [Value.int .u64 ((k : Int) + 2)], 1⟩]) (sl := 1) (t := 65) (e := 62) (kd := .u64) (Wants.none rfl) rfl rfl Tryd.underlying65 mk62 rfl rfl rfl (W := prS k) (B := [((k : Int) + 2)]) hown (fun w hs => src_ent (W := [((k : Int) + 2)]) (hs.has ⟨g1, 62, [Value.int .u64 ((k : Int) + 2)], 1⟩ (by simp)) rfl) (by have := prS_len k; omega) (by have := prS_len k; omega) (fun vo Ho ho hne => ?_)
        have hya := ok_yes hq3
        rw [← hya] at ho
        refine TL.gets (Wants.none rfl) rfl (Gets.assign rfl rfl) ?_
        refine TL.nil ?_
        refine TE.blockN ?_
        refine TE.then ?_
        refine TC.sub (Sub.cons (i := 0) rfl (Sub.cons (i := 3) rfl (Sub.cons (i := 4) rfl (Sub.nil)))) ?_
        refine TC.regionL ?_
        refine TL.gets (Wants.none rfl) rfl (Gets.move rfl rfl) ?_
        refine TL.gets (Wants.none rfl) rfl (Gets.add rfl rfl rfl (r := ((k : Int) + 3)) (wu64 (by omega) (by omega))) ?_
        refine TL.gets (Wants.none rfl) rfl (Gets.assign rfl rfl) ?_
        refine TL.nil ?_
        exact TE.back (⟨k + 1, vo, Ho⟩ : WV) (by show K - (k + 1) < K - k; omega) ⟨ho, by show k + 1 ≤ K; omega⟩ (Sub.int (i := 0) rfl (by first | omega | rfl) (Sub.cons (i := 3) rfl (Sub.int (i := 4) rfl (by first | omega | rfl) (Sub.nil)))) (fun w h => by first | exact h | exact h.drop (by assumption))
      · have ho : Own w.heap.size 62 .u64 (.slice Av (prS k).length cv) (prS (k + 1)) He := by rw [ok_no hq3]; exact hown
        generalize hHo : He = Ho at *
        generalize hvo : Value.slice Av (prS k).length cv = vo at *
        refine TC.skip ?_
        refine TE.blockN ?_
        refine TE.then ?_
        refine TC.regionL ?_
        refine TL.gets (Wants.none rfl) rfl (Gets.move rfl rfl) ?_
        refine TL.gets (Wants.none rfl) rfl (Gets.add rfl rfl rfl (r := ((k : Int) + 3)) (wu64 (by omega) (by omega))) ?_
        refine TL.gets (Wants.none rfl) rfl (Gets.assign rfl rfl) ?_
        refine TL.nil ?_
        exact TE.back (⟨k + 1, vo, Ho⟩ : WV) (by show K - (k + 1) < K - k; omega) ⟨ho, by show k + 1 ≤ K; omega⟩ (Sub.int (i := 0) rfl (by first | omega | rfl) (Sub.cons (i := 3) rfl (Sub.int (i := 4) rfl (by first | omega | rfl) (Sub.nil)))) (fun w h => by first | exact h | exact h.drop (by assumption))
  · refine TC.exit ?_
    refine TE.thenX ?_
    refine TE.thenX ?_
    refine TE.blockX ?_
    refine TE.then ?_
    refine TC.seq ?_
    refine TC.regionL ?_
    refine TL.gets (Wants.none rfl) rfl (Gets.move rfl rfl) ?_
    refine TL.gets (Wants.none rfl) rfl (Gets.assign rfl rfl) ?_
    refine TL.nil ?_
    refine TE.then ?_
    refine TC.ret ?_
    exact TE.ret1 rfl rfl (fun w hs => ⟨_, He, k, rfl, hown, hC2, by omega, hs⟩)
end Go.Proofs.YtdcphpmkhekghaaDoor
