/-
  The reference: Constants.
-/
import Derived.Test.YtdcphpmkhekghaaDoorShaV
namespace Go.Proofs.YtdcphpmkhekghaaDoor
set_option linter.unusedVariables false
set_option linter.unusedSimpArgs false
open Go Go.RowKit
theorem enters36 : Enters Tryd.prog 36 := ⟨_, Tryd.func36, by kernel_rfl, by kernel_rfl⟩
theorem enters37 : Enters Tryd.prog 37 := ⟨_, Tryd.func37, by kernel_rfl, by kernel_rfl⟩

theorem st_call {w0 w w' : World} {H He : List Ent} (h : St w0 H w) (h2 : St w He w') (hN : ∀ e ∈ He, w.heap.size ≤ e.g) : St w0 (H ++ He) w' := by
  have hne : ∀ e ∈ H, ∀ d ∈ He, d.g ≠ e.g := fun e he d hd hc => by
    have h3 := (h.has e he).lt
    have h4 := hN d hd
    omega
  refine ⟨h2.os.trans h.os, h2.tape.trans h.tape, h2.output.trans h.output, Nat.le_trans h.size h2.size, ?_, ?_, ?_⟩
  · intro e he
    rcases List.mem_append.1 he with he | he
    · exact (h.has e he).of_block (h2.old _ (h.has e he).lt (hne e he))
    · exact h2.has e he
  · intro b hb hnb
    rw [h2.old b (Nat.lt_of_lt_of_le hb h.size) (fun e he => hnb e (by simp [he]))]
    exact h.old b hb (fun e he => hnb e (by simp [he]))
  · rw [List.pairwise_append]
    exact ⟨h.apart, h2.apart, fun e he d hd hc => hne e he d hd hc.symm⟩
theorem own_mono {N N' : Nat} {t : TypeId} {kd : IntKind} {v : Value} {W : List Int} {He : List Ent} (h : Own N' t kd v W He) (hN : N ≤ N') : Own N t kd v W He := by
  rcases h with h | ⟨g, c, h1, h2, h3, h4⟩
  · exact .inl h
  · exact .inr ⟨g, c, h1, h2, Nat.le_trans hN h3, h4⟩
def consF (L : List Int) (c : Bool) : Nat → List Int
  | 0 => []
  | k + 1 => consF L c k ++ [IntKind.u32.wrap (bis (L.getD k 0) c 40).1]
theorem consF_len (L : List Int) (c : Bool) : ∀ k, (consF L c k).length = k
  | 0 => rfl
  | k + 1 => by simp [consF, consF_len L c k]

theorem rprimes_c (n K : Nat) (P : List Int) (w : World) (hP : prS K = P) (hn : P.length = n) (hK : ∀ k, k < K → (prS k).length < n) (hKb : K ≤ 400) : Calls Tryd.prog 36 #[.int .i64 (n : Int)] w fun e w' => ∃ v He, e = .returned v ∧ Own w.heap.size 62 .u64 v P He ∧ St w He w' :=
  (rprimes_k n K w (by rw [hP, hn]; exact Nat.le_refl _) hKb).mono fun e w' ⟨v, He, k, he, ho, hk, hn2, hs⟩ => by
    have hkK : k = K := by
      by_cases h : k < K
      · have := hK k h; omega
      · omega
    subst hkK
    rw [hP] at ho
    exact ⟨v, He, he, ho, hs⟩

set_option maxRecDepth 100000 in
set_option maxHeartbeats 400000 in
theorem rcons2_c (n K : Nat) (P : List Int) (w : World) (hP : prS K = P) (hn : P.length = n) (hn0 : 0 < n) (hn9 : n ≤ 100) (hK : ∀ k, k < K → (prS k).length < n) (hKb : K ≤ 400) (hfix : ∀ k, k < n → ¬ 1 < (bis (P.getD k 0) false 40).2 - (bis (P.getD k 0) false 40).1) : Calls Tryd.prog 32 #[.int .i64 (n : Int), .bool false] w fun e w' => ∃ v He, e = .returned v ∧ Own w.heap.size 48 .u32 v (consF P false n) He ∧ St w He w' := by
  refine calls_from (args := [.int .i64 (n : Int), .bool false]) Tryd.func32 rfl Tryd.ntmps32 (by simp) ?_
  refine TC.sub (Sub.cons (i := 0) rfl (Sub.cons (i := 1) rfl (Sub.nil))) ?_
  refine TC.seq ?_
  refine TC.regionL ?_
  refine TL.gets (Wants.none rfl) rfl (Gets.assign rfl rfl) ?_
  refine TL.nil ?_
  refine TE.then ?_
  refine TC.seq ?_
  refine TC.regionL ?_
  refine TL.gets (Wants.none rfl) rfl (Gets.assign rfl rfl) ?_
  refine TL.nil ?_
  refine TE.then ?_
  refine TC.seq ?_
  refine TC.regionL ?_
  refine TL.gets (Wants.none rfl) rfl (Gets.move rfl rfl) ?_
  refine TL.call (ι := WV) (V := fun x => x.v) (R := fun x => Own w.heap.size 62 .u64 x.v P x.He) (H' := fun x => [] ++ x.He) (Wants.none rfl) rfl enters36 rfl rfl (fun w hs => (rprimes_c n K P w hP hn hK hKb).mono fun e w' ⟨v, He, he, ho, hw⟩ => ⟨⟨0, v, He⟩, he, own_mono ho hs.size, st_call hs hw ho.new⟩) (fun x hx => ?_)
  obtain ⟨kx, vL, HL⟩ := x
  dsimp only at hx ⊢
  obtain ⟨gL, cL, hvL, hHL, hNL, hcL, hmL⟩ := hx.resolve_left (fun h => by have := congrArg List.length h.2.1; rw [hn] at this; simp at this; omega)
  rw [hn] at hvL
  subst hvL; subst hHL
  refine TL.gets (Wants.none rfl) rfl (Gets.assign rfl rfl) ?_
  refine TL.nil ?_
  refine TE.then ?_
  refine TC.seq ?_
  refine TC.seq ?_
  refine TC.regionL ?_
  refine TL.gets (Wants.none rfl) rfl (Gets.assign rfl rfl) ?_
  refine TL.nil ?_
  refine TE.then ?_
  refine TC.block ?_
  refine TC.loop (ι := WV) (fun x => [(1, .bool false), (5, x.v), (6, .slice (some ⟨gL, 0, none⟩) n cL), (7, .int .i64 (x.k : Int))]) (fun x => [⟨gL, 62, P.map (Value.int .u64), cL⟩] ++ x.He) (fun x => n - x.k) (fun x => Own w.heap.size 48 .u32 x.v (consF P false x.k) x.He ∧ x.k ≤ n) (⟨0, .slice none 0 0, []⟩ : WV) ⟨Own.nil _ _ _, by show 0 ≤ n; omega⟩ (Sub.cons (i := 1) rfl (Sub.cons (i := 5) rfl (Sub.cons (i := 6) rfl (Sub.int (i := 7) rfl (by first | omega | rfl) (Sub.nil))))) (fun w h => h) (fun x hC0 => ?_)
  obtain ⟨k, v, He⟩ := x
  obtain ⟨hown, hC2⟩ := hC0
  dsimp only at hown hC2 ⊢
  refine TC.seq ?_
  refine TC.seq ?_
  refine TC.regionL ?_
  refine TL.gets (Wants.none rfl) rfl (Gets.move rfl rfl) ?_
  refine TL.gets (Wants.none rfl) rfl (Gets.move rfl rfl) ?_
  refine TL.gets (Wants.none rfl) rfl (Gets.lenSlice rfl Tryd.underlying65 rfl) ?_
  refine TL.gets (Wants.none rfl) rfl (Gets.lss rfl rfl rfl) ?_
  refine TL.nil ?_
  refine TE.then ?_
  refine TC.split rfl (fun hq0 => ?_) (fun hq0 => ?_)
  · refine TC.skip ?_
    refine TE.then ?_
    refine TC.seq ?_
    refine TC.block ?_
    refine TC.regionL ?_
    refine TL.gets (Wants.none rfl) rfl (Gets.move rfl rfl) ?_
    refine TL.gets (Wants.none rfl) rfl (Gets.move rfl rfl) ?_
    refine TL.gets (Wants.none rfl) rfl (Gets.move rfl rfl) ?_
    refine TL.gets (Wants.none rfl) rfl (Gets.idxSlice rfl Tryd.underlying65 size62 rfl rfl (i := k) (by omega) (by omega) (off' := k) (by omega)) ?_
    refine TL.gets (Wants.none rfl) rfl (Gets.load1 rfl agg62 rfl (At.ent (i := 0) (ent := ⟨gL, 62, P.map (Value.int .u64), cL⟩) (off := k) rfl rfl (by have := ints_get (kd := .u64) (W := P) (i := k) (by rw [hn]; omega); (first | exact this | (refine Eq.trans ?_ this; congr 1; omega))))) ?_
    refine TL.gets (Wants.none rfl) rfl (Gets.move rfl rfl) ?_
    refine TL.call0 (Wants.none rfl) rfl enters37 rfl rfl (v := .int .u32 (IntKind.u32.wrap (bis (P.getD k 0) false 40).1)) (fun w hs => root2_c (P.getD k 0) w (hfix k (by omega))) ?_
    refine TL.buildSlice (Wants.none rfl) rfl rfl Tryd.underlying44 size48 zero48 rfl (by decide) (by decide) (cells := #[.int .u32 (IntKind.u32.wrap (bis (P.getD k 0) false 40).1)]) (tot := 1) (by kernel_rfl) (cs := [.int .u32 (IntKind.u32.wrap (bis (P.getD k 0) false 40).1)]) rfl rfl (fun g1 hg1 => ?_)
    refine TL.appendOwn (H := [⟨g1, 48, [Value.int .u32 (IntKind.u32.wrap (bis (P.getD k 0) false 40).1)], 1⟩, ⟨gL, 62, P.map (Value.int .u64), cL⟩]) (sl := 1) (t := 44) (e := 48) (kd := .u32) (Wants.none rfl) rfl rfl Tryd.underlying44 mk48 rfl rfl rfl (W := consF P false k) (B := [(IntKind.u32.wrap (bis (P.getD k 0) false 40).1)]) hown (fun w hs => src_ent (W := [(IntKind.u32.wrap (bis (P.getD k 0) false 40).1)]) (hs.has ⟨g1, 48, [Value.int .u32 (IntKind.u32.wrap (bis (P.getD k 0) false 40).1)], 1⟩ (by simp)) rfl) (by have := consF_len P false k; omega) (by have := consF_len P false k; omega) (fun vo Ho ho hne => ?_)
    refine TL.gets (Wants.none rfl) rfl (Gets.assign rfl rfl) ?_
    refine TL.nil ?_
    refine TE.blockN ?_
    refine TE.then ?_
    refine TC.sub (Sub.cons (i := 1) rfl (Sub.cons (i := 5) rfl (Sub.cons (i := 6) rfl (Sub.cons (i := 7) rfl (Sub.nil))))) ?_
    refine TC.regionL ?_
    refine TL.gets (Wants.none rfl) rfl (Gets.move rfl rfl) ?_
    refine TL.gets (Wants.none rfl) rfl (Gets.add rfl rfl rfl (r := ((k : Int) + 1)) (w64 (by omega) (by omega))) ?_
    refine TL.gets (Wants.none rfl) rfl (Gets.assign rfl rfl) ?_
    refine TL.nil ?_
    exact TE.back (⟨k + 1, vo, Ho⟩ : WV) (by show n - (k + 1) < n - k; omega) ⟨ho, by show k + 1 ≤ n; omega⟩ (Sub.cons (i := 1) rfl (Sub.cons (i := 5) rfl (Sub.slice (i := 6) rfl rfl (by first | omega | (dsimp only; omega) | rfl) (by first | omega | (dsimp only; omega) | rfl) (Sub.int (i := 7) rfl (by first | omega | rfl) (Sub.nil))))) (fun w h => h.drop (by assumption))
  · obtain rfl : k = n := by omega
    refine TC.exit ?_
    refine TE.thenX ?_
    refine TE.thenX ?_
    refine TE.blockX ?_
    refine TE.then ?_
    refine TC.seq ?_
    refine TC.regionL ?_
    refine TL.gets (Wants.none rfl) rfl (Gets.move rfl rfl) ?_
    refine TL.gets (Wants.none rfl) rfl (Gets.assign rfl rfl) ?_
    refine TL.nil ?_
    refine TE.then ?_
    refine TC.ret ?_
    exact TE.ret1 rfl rfl (fun w hs => ⟨v, He, rfl, hown, hs.drop hNL⟩)

set_option maxRecDepth 100000 in
set_option maxHeartbeats 400000 in
theorem rcons3_c (n K : Nat) (P : List Int) (w : World) (hP : prS K = P) (hn : P.length = n) (hn0 : 0 < n) (hn9 : n ≤ 100) (hK : ∀ k, k < K → (prS k).length < n) (hKb : K ≤ 400) (hfix : ∀ k, k < n → ¬ 1 < (bis (P.getD k 0) true 40).2 - (bis (P.getD k 0) true 40).1) : Calls Tryd.prog 32 #[.int .i64 (n : Int), .bool true] w fun e w' => ∃ v He, e = .returned v ∧ Own w.heap.size 48 .u32 v (consF P true n) He ∧ St w He w' := by
  refine calls_from (args := [.int .i64 (n : Int), .bool true]) Tryd.func32 rfl Tryd.ntmps32 (by simp) ?_
  refine TC.sub (Sub.cons (i := 0) rfl (Sub.cons (i := 1) rfl (Sub.nil))) ?_
  refine TC.seq ?_
  refine TC.regionL ?_
  refine TL.gets (Wants.none rfl) rfl (Gets.assign rfl rfl) ?_
  refine TL.nil ?_
  refine TE.then ?_
  refine TC.seq ?_
  refine TC.regionL ?_
  refine TL.gets (Wants.none rfl) rfl (Gets.assign rfl rfl) ?_
  refine TL.nil ?_
  refine TE.then ?_
  refine TC.seq ?_
  refine TC.regionL ?_
  refine TL.gets (Wants.none rfl) rfl (Gets.move rfl rfl) ?_
  refine TL.call (ι := WV) (V := fun x => x.v) (R := fun x => Own w.heap.size 62 .u64 x.v P x.He) (H' := fun x => [] ++ x.He) (Wants.none rfl) rfl enters36 rfl rfl (fun w hs => (rprimes_c n K P w hP hn hK hKb).mono fun e w' ⟨v, He, he, ho, hw⟩ => ⟨⟨0, v, He⟩, he, own_mono ho hs.size, st_call hs hw ho.new⟩) (fun x hx => ?_)
  obtain ⟨kx, vL, HL⟩ := x
  dsimp only at hx ⊢
  obtain ⟨gL, cL, hvL, hHL, hNL, hcL, hmL⟩ := hx.resolve_left (fun h => by have := congrArg List.length h.2.1; rw [hn] at this; simp at this; omega)
  rw [hn] at hvL
  subst hvL; subst hHL
  refine TL.gets (Wants.none rfl) rfl (Gets.assign rfl rfl) ?_
  refine TL.nil ?_
  refine TE.then ?_
  refine TC.seq ?_
  refine TC.seq ?_
  refine TC.regionL ?_
  refine TL.gets (Wants.none rfl) rfl (Gets.assign rfl rfl) ?_
  refine TL.nil ?_
  refine TE.then ?_
  refine TC.block ?_
  refine TC.loop (ι := WV) (fun x => [(1, .bool true), (5, x.v), (6, .slice (some ⟨gL, 0, none⟩) n cL), (7, .int .i64 (x.k : Int))]) (fun x => [⟨gL, 62, P.map (Value.int .u64), cL⟩] ++ x.He) (fun x => n - x.k) (fun x => Own w.heap.size 48 .u32 x.v (consF P true x.k) x.He ∧ x.k ≤ n) (⟨0, .slice none 0 0, []⟩ : WV) ⟨Own.nil _ _ _, by show 0 ≤ n; omega⟩ (Sub.cons (i := 1) rfl (Sub.cons (i := 5) rfl (Sub.cons (i := 6) rfl (Sub.int (i := 7) rfl (by first | omega | rfl) (Sub.nil))))) (fun w h => h) (fun x hC0 => ?_)
  obtain ⟨k, v, He⟩ := x
  obtain ⟨hown, hC2⟩ := hC0
  dsimp only at hown hC2 ⊢
  refine TC.seq ?_
  refine TC.seq ?_
  refine TC.regionL ?_
  refine TL.gets (Wants.none rfl) rfl (Gets.move rfl rfl) ?_
  refine TL.gets (Wants.none rfl) rfl (Gets.move rfl rfl) ?_
  refine TL.gets (Wants.none rfl) rfl (Gets.lenSlice rfl Tryd.underlying65 rfl) ?_
  refine TL.gets (Wants.none rfl) rfl (Gets.lss rfl rfl rfl) ?_
  refine TL.nil ?_
  refine TE.then ?_
  refine TC.split rfl (fun hq0 => ?_) (fun hq0 => ?_)
  · refine TC.skip ?_
    refine TE.then ?_
    refine TC.seq ?_
    refine TC.block ?_
    refine TC.regionL ?_
    refine TL.gets (Wants.none rfl) rfl (Gets.move rfl rfl) ?_
    refine TL.gets (Wants.none rfl) rfl (Gets.move rfl rfl) ?_
    refine TL.gets (Wants.none rfl) rfl (Gets.move rfl rfl) ?_
    refine TL.gets (Wants.none rfl) rfl (Gets.idxSlice rfl Tryd.underlying65 size62 rfl rfl (i := k) (by omega) (by omega) (off' := k) (by omega)) ?_
    refine TL.gets (Wants.none rfl) rfl (Gets.load1 rfl agg62 rfl (At.ent (i := 0) (ent := ⟨gL, 62, P.map (Value.int .u64), cL⟩) (off := k) rfl rfl (by have := ints_get (kd := .u64) (W := P) (i := k) (by rw [hn]; omega); (first | exact this | (refine Eq.trans ?_ this; congr 1; omega))))) ?_
    refine TL.gets (Wants.none rfl) rfl (Gets.move rfl rfl) ?_
    refine TL.call0 (Wants.none rfl) rfl enters37 rfl rfl (v := .int .u32 (IntKind.u32.wrap (bis (P.getD k 0) true 40).1)) (fun w hs => root3_c (P.getD k 0) w (hfix k (by omega))) ?_
    refine TL.buildSlice (Wants.none rfl) rfl rfl Tryd.underlying44 size48 zero48 rfl (by decide) (by decide) (cells := #[.int .u32 (IntKind.u32.wrap (bis (P.getD k 0) true 40).1)]) (tot := 1) (by kernel_rfl) (cs := [.int .u32 (IntKind.u32.wrap (bis (P.getD k 0) true 40).1)]) rfl rfl (fun g1 hg1 => ?_)
    refine TL.appendOwn (H := [⟨g1, 48, [Value.int .u32 (IntKind.u32.wrap (bis (P.getD k 0) true 40).1)], 1⟩, ⟨gL, 62, P.map (Value.int .u64), cL⟩]) (sl := 1) (t := 44) (e := 48) (kd := .u32) (Wants.none rfl) rfl rfl Tryd.underlying44 mk48 rfl rfl rfl (W := consF P true k) (B := [(IntKind.u32.wrap (bis (P.getD k 0) true 40).1)]) hown (fun w hs => src_ent (W := [(IntKind.u32.wrap (bis (P.getD k 0) true 40).1)]) (hs.has ⟨g1, 48, [Value.int .u32 (IntKind.u32.wrap (bis (P.getD k 0) true 40).1)], 1⟩ (by simp)) rfl) (by have := consF_len P true k; omega) (by have := consF_len P true k; omega) (fun vo Ho ho hne => ?_)
    refine TL.gets (Wants.none rfl) rfl (Gets.assign rfl rfl) ?_
    refine TL.nil ?_
    refine TE.blockN ?_
    refine TE.then ?_
    refine TC.sub (Sub.cons (i := 1) rfl (Sub.cons (i := 5) rfl (Sub.cons (i := 6) rfl (Sub.cons (i := 7) rfl (Sub.nil))))) ?_
    refine TC.regionL ?_
    refine TL.gets (Wants.none rfl) rfl (Gets.move rfl rfl) ?_
    refine TL.gets (Wants.none rfl) rfl (Gets.add rfl rfl rfl (r := ((k : Int) + 1)) (w64 (by omega) (by omega))) ?_
    refine TL.gets (Wants.none rfl) rfl (Gets.assign rfl rfl) ?_
    refine TL.nil ?_
    exact TE.back (⟨k + 1, vo, Ho⟩ : WV) (by show n - (k + 1) < n - k; omega) ⟨ho, by show k + 1 ≤ n; omega⟩ (Sub.cons (i := 1) rfl (Sub.cons (i := 5) rfl (Sub.slice (i := 6) rfl rfl (by first | omega | (dsimp only; omega) | rfl) (by first | omega | (dsimp only; omega) | rfl) (Sub.int (i := 7) rfl (by first | omega | rfl) (Sub.nil))))) (fun w h => h.drop (by assumption))
  · obtain rfl : k = n := by omega
    refine TC.exit ?_
    refine TE.thenX ?_
    refine TE.thenX ?_
    refine TE.blockX ?_
    refine TE.then ?_
    refine TC.seq ?_
    refine TC.regionL ?_
    refine TL.gets (Wants.none rfl) rfl (Gets.move rfl rfl) ?_
    refine TL.gets (Wants.none rfl) rfl (Gets.assign rfl rfl) ?_
    refine TL.nil ?_
    refine TE.then ?_
    refine TC.ret ?_
    exact TE.ret1 rfl rfl (fun w hs => ⟨v, He, rfl, hown, hs.drop hNL⟩)
end Go.Proofs.YtdcphpmkhekghaaDoor
