/-
  The code of layer 5: upTo, its iterator, overlap, gap.
-/
import Derived.Test.YtkgamkjdkapchaaUpt
import Derived.Test.YtkgamkjdkapchaaDlE
namespace Go.Proofs.Ytkgamkjdkapchaa
set_option linter.unusedVariables false
set_option linter.unusedSimpArgs false
open Go Go.RowKit
theorem agg56 : (isAgg 56).run Try.prog = fun w => .ok false w := isAgg_no Try.underlying56 rfl
theorem agg59 : (isAgg 59).run Try.prog = fun w => .ok true w := isAgg_yes Try.underlying59 rfl
theorem enters64 : Enters Try.prog 64 := ⟨_, Try.func64, by kernel_rfl, by kernel_rfl⟩
theorem size59 : (Try.prog.info? 59).map (·.size) = some 3 := by kernel_rfl
theorem zero3 : (Try.prog.info? 3).bind (·.zero) = some (.int .i64 0) := by kernel_rfl
theorem zero4 : (Try.prog.info? 4).bind (·.zero) = some (.bool false) := by kernel_rfl
theorem zero59 : (Try.prog.info? 59).bind (·.zero) = some (.agg #[.int .i64 0, .int .i64 0, .int .i64 0]) := by kernel_rfl
set_option maxRecDepth 100000 in
set_option maxHeartbeats 1000000 in
theorem upTo_iter (p1 p2 gt m : Nat) (Ts : List TV) (q : Int) (hq : -9223372036854775808 ≤ q ∧ q ≤ 9223372036854775807) (hm : m ≤ 1000000000) (hnum : ∀ t ∈ Ts, (-9223372036854775808 ≤ t.o ∧ t.o ≤ 9223372036854775807) ∧ (-9223372036854775808 ≤ t.l ∧ t.l ≤ 9223372036854775807) ∧ t.x ≤ 9223372036854775807) (w0 : World) (hc0 : CapT w0 p1 p2 gt m Ts q) : IterC Fence.wide 2 Try.prog 64 #[.pointer (some ⟨p1, 0, none⟩), .pointer (some ⟨p2, 0, none⟩)] (fun i => #[encP (upF Ts q) i]) (upF Ts q).length 0 (capK p1 p2 gt) w0 := by
  intro l J Jx W hW hJ hJx hY hJ0
  have hc : CapT W p1 p2 gt m Ts q := hc0.keep (fun k hk => hW.block k (hc0.lt hk)) hW.size
  have hc1 := hc.h1
  have hc2 := hc.h2
  have hc3 := hc.h3
  show CallsIn Fence.wide 2 Try.prog 64 #[.func (.yield l) #[] #[], .pointer (some ⟨p1, 0, none⟩), .pointer (some ⟨p2, 0, none⟩)] W _
  refine callsIn_from (args := [.func (.yield l) #[] #[], .pointer (some ⟨p1, 0, none⟩), .pointer (some ⟨p2, 0, none⟩)]) Try.func64 rfl Try.ntmps64 (by simp) ?_
  refine TC.sub (Sub.cons (i := 0) rfl (Sub.cons (i := 1) rfl (Sub.cons (i := 2) rfl (Sub.nil)))) ?_
  refine TC.seq ?_
  refine TC.regionL ?_
  refine TL.gets (Wants.none rfl) rfl (Gets.load1 rfl agg56 rfl (At.old hc.s hc.h1 ne_nil)) ?_
  refine TL.gets (Wants.none rfl) rfl (Gets.lenSlice rfl Try.underlying56 rfl) ?_
  refine TL.gets (Wants.none rfl) rfl (Gets.move rfl rfl) ?_
  refine TL.nil ?_
  refine TE.then ?_
  refine TC.block ?_
  refine TC.loopW (ι := Nat × World) (fun y => y.2) (fun y => [(0, .func (.yield l) #[] #[]), (1, .pointer (some ⟨p1, 0, none⟩)), (2, .pointer (some ⟨p2, 0, none⟩)), (6, .slice (some ⟨gt, 0, none⟩) m m), (7, .int .i64 (m : Int)), (8, .int .i64 (y.1 : Int))]) (fun y => []) (fun y => m - y.1) (fun y => y.1 ≤ m ∧ J (cntT Ts q y.1) y.2 ∧ CapT y.2 p1 p2 gt m Ts q ∧ W.heap.size ≤ y.2.heap.size) (0, W) ⟨Nat.zero_le _, hJ0, hc, Nat.le_refl _⟩ (Sub.cons (i := 0) rfl (Sub.cons (i := 1) rfl (Sub.cons (i := 2) rfl (Sub.slice (i := 6) rfl rfl (by first | omega | (dsimp only; omega) | rfl) (by first | omega | (dsimp only; omega) | rfl) (Sub.int (i := 7) rfl (by first | omega | rfl) (Sub.int (i := 8) rfl rfl (Sub.nil))))))) (fun w h => h) (fun y hC0 => ?_)
  obtain ⟨k, v⟩ := y
  obtain ⟨hk, hj, hc, hsz⟩ := hC0
  dsimp only at hk hj hc hsz
  change TC _ _ _ v _ _ _
  have hc1 := hc.h1
  have hc2 := hc.h2
  have hc3 := hc.h3
  refine TC.seq ?_
  refine TC.regionL ?_
  refine TL.gets (Wants.none rfl) rfl (Gets.lss rfl rfl rfl) ?_
  refine TL.nil ?_
  refine TE.then ?_
  refine TC.seq ?_
  refine TC.split rfl (fun hq0 => ?_) (fun hq0 => ?_)
  · obtain ⟨x, hkx⟩ : ∃ x, Ts[k]? = some x := ⟨_, List.getElem?_eq_getElem (by have := hc.l; omega)⟩
    have hnx := hnum x (List.mem_of_getElem? hkx)
    refine TC.skip ?_
    refine TE.then ?_
    refine TC.seq ?_
    refine TC.block ?_
    refine TC.seq ?_
    refine TC.regionL ?_
    refine TL.gets (Wants.none rfl) rfl (Gets.idxSlice rfl Try.underlying56 size59 rfl rfl (i := k) (by omega) (by omega) (off' := (3 * k)) (by omega)) ?_
    refine TL.gets (Wants.none rfl) rfl (Gets.loadN rfl agg59 size59 rfl rfl (Row.old (fun jj u h => hc.row hkx h) hc.h3 ne_nil)) ?_
    refine TL.alloc (Wants.none rfl) rfl rfl zero59 (cs := [Value.int .i64 0, Value.int .i64 0, Value.int .i64 0]) rfl (tot := 3) (by simp) (fun g1 hg1 => ?_)
    refine TL.storeW (Wants.none rfl) rfl rfl size59 rfl (vs := [Value.int .i64 x.o, Value.int .i64 x.l, Value.int .i64 (x.x : Int)]) rfl (by simp []) (by simp [Value.oneCell']) (i := 0) (ent := ⟨g1, 59, [Value.int .i64 0, Value.int .i64 0, Value.int .i64 0], 3⟩) rfl rfl (by simp []) (H' := [⟨g1, 59, [Value.int .i64 x.o, Value.int .i64 x.l, Value.int .i64 (x.x : Int)], 3⟩]) rfl ?_
    refine TL.nil ?_
    refine TE.then ?_
    refine TC.sub (Sub.cons (i := 0) rfl (Sub.cons (i := 1) rfl (Sub.cons (i := 2) rfl (Sub.cons (i := 5) rfl (Sub.cons (i := 6) rfl (Sub.cons (i := 7) rfl (Sub.cons (i := 8) rfl (Sub.nil)))))))) ?_
    refine TC.seq ?_
    refine TC.regionL ?_
    refine TL.gets (Wants.none rfl) rfl (Gets.fieldAddr rfl Try.underlying59 rfl size3 rfl (off' := 2) (by first | rfl | omega)) ?_
    refine TL.gets (Wants.none rfl) rfl (Gets.load1 rfl agg3 rfl (At.ent (i := 0) (ent := ⟨g1, 59, [Value.int .i64 x.o, Value.int .i64 x.l, Value.int .i64 (x.x : Int)], 3⟩) (off := 2) rfl rfl (by exact rfl))) ?_
    refine TL.gets (Wants.none rfl) rfl (Gets.load1 rfl agg3 rfl (At.old hc.x hc.h2 (ne_cons (by show g1 ≠ p2; omega) ne_nil))) ?_
    refine TL.gets (Wants.none rfl) rfl (Gets.leq rfl rfl rfl) ?_
    by_cases hx : (x.x : Int) ≤ q
    · refine TL.gets (Wants.none rfl) rfl (Gets.isTrue (Gets.move rfl rfl) hx) ?_
      refine TL.gets (Wants.yes rfl rfl rfl) rfl (Gets.move rfl rfl) ?_
      refine TL.gets (Wants.yes rfl rfl rfl) rfl (Gets.fieldAddr rfl Try.underlying59 rfl size49 rfl (off' := 0) (by first | rfl | omega)) ?_
      refine TL.gets (Wants.yes rfl rfl rfl) rfl (Gets.loadN rfl agg49 size49 rfl (vs := [Value.int .i64 x.o, Value.int .i64 x.l]) rfl (Row.part (i := 0) (ent := ⟨g1, 59, [Value.int .i64 x.o, Value.int .i64 x.l, Value.int .i64 (x.x : Int)], 3⟩) rfl rfl rfl)) ?_
      refine TL.yield rfl (Wants.yes rfl rfl rfl) rfl rfl rfl rfl (T := fun v1 => J (cntT Ts q k + 1) v1 ∧ CapT v1 p1 p2 gt m Ts q ∧ W.heap.size ≤ v1.heap.size) (U := fun v1 => Jx (cntT Ts q k + 1) v1) (fun w hs => up_yield (p := pr x) hJ hY (cntT_lt hkx hx) (cntT_yes hkx hx).2 hj hc hsz hs (by intro e he; rw [List.mem_singleton.1 he]; assumption)) (fun v1 hT => ?_) (fun v1 hU => ?_)
      · obtain ⟨hj, hc, hsz⟩ := hT
        refine TL.gets (Wants.yes rfl rfl rfl) rfl (Gets.not rfl rfl) ?_
        refine TL.gets (Wants.none rfl) rfl (Gets.pickT rfl rfl rfl) ?_
        refine TL.nil ?_
        refine TE.then ?_
        refine TC.sub (Sub.cons (i := 0) rfl (Sub.cons (i := 1) rfl (Sub.cons (i := 2) rfl (Sub.cons (i := 6) rfl (Sub.cons (i := 7) rfl (Sub.cons (i := 8) rfl (Sub.cons (i := 22) rfl (Sub.nil)))))))) ?_
        refine TC.no rfl ?_
        refine TC.skip ?_
        refine TE.blockN ?_
        refine TE.then ?_
        refine TC.regionL ?_
        refine TL.gets (Wants.none rfl) rfl (Gets.add rfl rfl rfl (r := ((k : Int) + 1)) (w64 (by omega) (by omega))) ?_
        refine TL.gets (Wants.none rfl) rfl (Gets.move rfl rfl) ?_
        refine TL.nil ?_
        exact TE.backW (k + 1, v1) (by show m - (k + 1) < m - k; omega) ⟨(by show k + 1 ≤ m; omega), (show J (cntT Ts q (k + 1)) v1 from by rw [(cntT_yes hkx hx).1]; exact hj), hc, hsz⟩ (Sub.cons (i := 0) rfl (Sub.cons (i := 1) rfl (Sub.cons (i := 2) rfl (Sub.slice (i := 6) rfl rfl (by first | omega | (dsimp only; omega) | rfl) (by first | omega | (dsimp only; omega) | rfl) (Sub.int (i := 7) rfl (by first | omega | rfl) (Sub.int (i := 8) rfl rfl (Sub.nil))))))) (fun w h => h)
      · refine TL.gets (Wants.yes rfl rfl rfl) rfl (Gets.not rfl rfl) ?_
        refine TL.gets (Wants.none rfl) rfl (Gets.pickT rfl rfl rfl) ?_
        refine TL.nil ?_
        refine TE.then ?_
        refine TC.sub (Sub.cons (i := 0) rfl (Sub.cons (i := 1) rfl (Sub.cons (i := 2) rfl (Sub.cons (i := 6) rfl (Sub.cons (i := 7) rfl (Sub.cons (i := 8) rfl (Sub.cons (i := 22) rfl (Sub.nil)))))))) ?_
        refine TC.yes rfl ?_
        refine TC.ret ?_
        refine TE.blockR ?_
        refine TE.thenR ?_
        refine TE.thenR ?_
        refine TE.blockR ?_
        exact TE.ret0 rfl (fun w hs => ⟨⟨_, rfl⟩, .inr ⟨cntT Ts q k, cntT_lt hkx hx, hJx _ _ _ hU (St.beside0 hs (by intro e he; cases he))⟩⟩)
    · refine TL.gets (Wants.none rfl) rfl (Gets.isFalse (Gets.move rfl rfl) hx) ?_
      refine TL.pass rfl rfl rfl rfl rfl ?_
      refine TL.pass rfl rfl rfl rfl rfl ?_
      refine TL.pass rfl rfl rfl rfl rfl ?_
      refine TL.pass rfl rfl rfl rfl rfl ?_
      refine TL.pass rfl rfl rfl rfl rfl ?_
      refine TL.gets (Wants.none rfl) rfl (Gets.pickF rfl rfl rfl) ?_
      refine TL.nil ?_
      refine TE.then ?_
      refine TC.sub (Sub.cons (i := 0) rfl (Sub.cons (i := 1) rfl (Sub.cons (i := 2) rfl (Sub.cons (i := 6) rfl (Sub.cons (i := 7) rfl (Sub.cons (i := 8) rfl (Sub.cons (i := 22) rfl (Sub.nil)))))))) ?_
      refine TC.no rfl ?_
      refine TC.skip ?_
      refine TE.blockN ?_
      refine TE.then ?_
      refine TC.regionL ?_
      refine TL.gets (Wants.none rfl) rfl (Gets.add rfl rfl rfl (r := ((k : Int) + 1)) (w64 (by omega) (by omega))) ?_
      refine TL.gets (Wants.none rfl) rfl (Gets.move rfl rfl) ?_
      refine TL.nil ?_
      exact TE.backW (k + 1, v) (by show m - (k + 1) < m - k; omega) ⟨(by show k + 1 ≤ m; omega), (show J (cntT Ts q (k + 1)) v from by rw [cntT_no hkx hx]; exact hj), hc, hsz⟩ (Sub.cons (i := 0) rfl (Sub.cons (i := 1) rfl (Sub.cons (i := 2) rfl (Sub.slice (i := 6) rfl rfl (by first | omega | (dsimp only; omega) | rfl) (by first | omega | (dsimp only; omega) | rfl) (Sub.int (i := 7) rfl (by first | omega | rfl) (Sub.int (i := 8) rfl rfl (Sub.nil))))))) (fun w h => (h.drop (by assumption)))
  · refine TC.exit ?_
    refine TE.thenX ?_
    refine TE.thenX ?_
    refine TE.blockX ?_
    exact TE.end0 rfl (fun w hs => ⟨⟨_, rfl⟩, .inl (hJ _ _ _ (show J (upF Ts q).length v from by rw [← cntT_all (m := k) (by have := hc.l; omega)]; exact hj) (St.beside0 hs (by intro e he; cases he)))⟩)

set_option maxRecDepth 100000 in
set_option maxHeartbeats 400000 in
theorem upTo_c (gt m : Nat) (q : Int) (w : World) : Calls Try.prog 51 #[.slice (some ⟨gt, 0, none⟩) m m, .int .i64 q] w fun e w' => ∃ y : Nat × Nat, e = .returned (.func (.func 64) #[] #[.pointer (some ⟨y.1, 0, none⟩), .pointer (some ⟨y.2, 0, none⟩)]) ∧ (w.heap.size ≤ y.1 ∧ w.heap.size ≤ y.2) ∧ St w [⟨y.1, 56, [Value.slice (some ⟨gt, 0, none⟩) m m], 1⟩, ⟨y.2, 3, [Value.int .i64 q], 1⟩] w' := by
  refine calls_from (args := [.slice (some ⟨gt, 0, none⟩) m m, .int .i64 q]) Try.func51 rfl Try.ntmps51 (by simp) ?_
  refine TC.sub (Sub.cons (i := 0) rfl (Sub.cons (i := 1) rfl (Sub.nil))) ?_
  refine TC.seq ?_
  refine TC.regionL ?_
  refine TL.box (Wants.none rfl) rfl rfl rfl (cs := [Value.slice (some ⟨gt, 0, none⟩) m m]) rfl (tot := 1) (by simp []) (fun g1 hg1 => ?_)
  refine TL.box (Wants.none rfl) rfl rfl rfl (cs := [Value.int .i64 q]) rfl (tot := 1) (by simp []) (fun g2 hg2 => ?_)
  refine TL.gets (Wants.none rfl) rfl (Gets.assign rfl rfl) ?_
  refine TL.nil ?_
  refine TE.then ?_
  refine TC.seq ?_
  refine TC.regionL ?_
  refine TL.gets (Wants.none rfl) rfl (Gets.makeFunc rfl rfl rfl) ?_
  refine TL.gets (Wants.none rfl) rfl (Gets.assign rfl rfl) ?_
  refine TL.nil ?_
  refine TE.then ?_
  refine TC.ret ?_
  exact TE.ret1 rfl rfl (fun w hs => ⟨(g1, g2), rfl, ⟨by assumption, by assumption⟩, hs.perm (List.Perm.swap _ _ _)⟩)

set_option maxRecDepth 100000 in
set_option maxHeartbeats 1000000 in
theorem overlap_c (p1 p2 gt m : Nat) (Ts : List TV) (q : Int) (hq : -9223372036854775808 ≤ q ∧ q ≤ 9223372036854775807) (hm : m ≤ 1000000000) (hnum : ∀ t ∈ Ts, (-9223372036854775808 ≤ t.o ∧ t.o ≤ 9223372036854775807) ∧ (-9223372036854775808 ≤ t.l ∧ t.l ≤ 9223372036854775807) ∧ t.x ≤ 9223372036854775807) (n : Int) (hn0 : 0 ≤ n ∧ n ≤ 4611686018427387903) (hpos : posF (upF Ts q)) (hend : ∀ p ∈ upF Ts q, p.1 + p.2 ≤ n) (w : World) (hc : CapT w p1 p2 gt m Ts q) : Calls Try.prog 50 #[.func (.func 64) #[] #[.pointer (some ⟨p1, 0, none⟩), .pointer (some ⟨p2, 0, none⟩)]] w fun e w' => e = .returned (.bool (decide (ovF (upF Ts q)))) ∧ St w [] w' := by
  have hc1 := hc.h1
  have hc2 := hc.h2
  have hc3 := hc.h3
  refine calls_fromM (args := [.func (.func 64) #[] #[.pointer (some ⟨p1, 0, none⟩), .pointer (some ⟨p2, 0, none⟩)]]) Try.func50 rfl Try.ntmps50 (by simp) ?_
  refine TC.sub (Sub.cons (i := 0) rfl (Sub.nil)) ?_
  refine TC.seq ?_
  refine TC.regionL ?_
  refine TL.alloc (Wants.none rfl) rfl rfl zero4 (cs := [Value.bool false]) rfl (tot := 1) (by simp) (fun g1 hg1 => ?_)
  refine TL.nil ?_
  refine TE.then ?_
  refine TC.seq ?_
  refine TC.regionL ?_
  refine TL.alloc (Wants.none rfl) rfl rfl zero3 (cs := [Value.int .i64 0]) rfl (tot := 1) (by simp) (fun g2 hg2 => ?_)
  refine TL.store1 (Wants.none rfl) rfl rfl size3 rfl rfl rfl (i := 0) rfl rfl (by simp [] <;> omega) (cs' := [Value.int .i64 0]) (rfl) (H' := [⟨g2, 3, [Value.int .i64 0], 1⟩, ⟨g1, 4, [Value.bool false], 1⟩]) rfl ?_
  refine TL.nil ?_
  refine TE.then ?_
  refine TC.seq ?_
  refine TC.seq ?_
  refine TC.regionL ?_
  refine TL.gets (Wants.none rfl) rfl (Gets.move rfl rfl) ?_
  refine TL.nil ?_
  refine TE.then ?_
  refine TC.block ?_
  refine TC.range (V := fun i => .agg ([Value.int .i64 ((eP (upF Ts q) i).1), Value.int .i64 ((eP (upF Ts q) i).2)]).toArray) (N := (upF Ts q).length) (c := 0) (Cap := capK p1 p2 gt) rfl rfl rfl rfl enters64 (fun w hs => upTo_iter p1 p2 gt m Ts q hq hm hnum w (hc.at_ hs (fun b hb => (ne_cons (by show g2 ≠ b; omega) (ne_cons (by show g1 ≠ b; omega) ne_nil))))) (fun i => ∀ j r, j < i → (upF Ts q)[j]? = some r → endF (upF Ts q) j ≤ r.1) (fun i => [⟨g2, 3, [Value.int .i64 (endF (upF Ts q) i)], 1⟩, ⟨g1, 4, [Value.bool false], 1⟩]) [] (fun i y => [(2, .pointer (some ⟨g1, 0, none⟩)), (3, .pointer (some ⟨g2, 0, none⟩)), (4, .pointer (some ⟨y, 0, none⟩))]) (fun i y => [⟨y, 49, [Value.int .i64 ((eP (upF Ts q) i).1), Value.int .i64 ((eP (upF Ts q) i).2)], 2⟩]) (fun i => ovF (upF Ts q)) (fun i => [⟨g2, 3, [Value.int .i64 (endF (upF Ts q) (i - 1))], 1⟩, ⟨g1, 4, [Value.bool true], 1⟩]) 0 (fun i => False) (fun i => [⟨g2, 3, [Value.int .i64 (endF (upF Ts q) i)], 1⟩, ⟨g1, 4, [Value.bool false], 1⟩]) (fun j r h => absurd h (Nat.not_lt_zero j)) (fun w h => h) (fun _ => rfl) (fun _ => rfl) (fun _ => rfl) (fun w hs k hk => ⟨Nat.lt_of_lt_of_le (hc.lt hk) hs.size, (have hb := hc.lt hk; (ne_cons (by show g2 ≠ k; omega) (ne_cons (by show g1 ≠ k; omega) ne_nil)))⟩) (fun i y e he => by rw [List.mem_singleton.1 he]; exact Nat.le_refl _) (fun l i v hiN hC hs0 => ?_) (fun l i y v hiN hC hy hyv hs0 => ?_) (fun D W hC hW hM => ?_) (fun D W i hiN hC hW hM => ?_) (fun D W i hiN hC hW hM => ?_)
  · refine TC.sub (Sub.cons (i := 2) rfl (Sub.cons (i := 3) rfl (Sub.cons (i := 6) rfl (Sub.nil)))) ?_
    refine TC.regionL ?_
    refine TL.alloc (Wants.none rfl) rfl rfl zero49 (cs := [Value.int .i64 0, Value.int .i64 0]) rfl (tot := 2) (by simp) (fun g3 hg3 => ?_)
    refine TL.storeW (Wants.none rfl) rfl rfl size49 rfl (vs := [Value.int .i64 ((eP (upF Ts q) i).1), Value.int .i64 ((eP (upF Ts q) i).2)]) rfl (by simp []) (by simp [Value.oneCell']) (i := 0) (ent := ⟨g3, 49, [Value.int .i64 0, Value.int .i64 0], 2⟩) rfl rfl (by simp []) (H' := [⟨g3, 49, [Value.int .i64 ((eP (upF Ts q) i).1), Value.int .i64 ((eP (upF Ts q) i).2)], 2⟩, ⟨g2, 3, [Value.int .i64 (endF (upF Ts q) i)], 1⟩, ⟨g1, 4, [Value.bool false], 1⟩]) rfl ?_
    refine TL.nil ?_
    exact TE.ax g3 hg3 (fun w hs => Nat.le_of_lt (hs.has _ List.mem_cons_self).lt) (Sub.cons (i := 2) rfl (Sub.cons (i := 3) rfl (Sub.cons (i := 4) rfl (Sub.nil)))) (fun w h => h)
  · have hqq := eP_at hiN
    have hqp := hpos _ (List.mem_of_getElem? hqq)
    have hqn := hend _ (List.mem_of_getElem? hqq)
    have heb := endF_bd hpos hend hn0.1 i
    refine TC.block ?_
    refine TC.seq ?_
    refine TC.seq ?_
    refine TC.regionL ?_
    refine TL.gets (Wants.none rfl) rfl (Gets.fieldAddr rfl Try.underlying49 rfl size3 rfl (off' := 0) (by first | rfl | omega)) ?_
    refine TL.gets (Wants.none rfl) rfl (Gets.load1 rfl agg3 rfl (At.ent (i := 0) (ent := ⟨y, 49, [Value.int .i64 ((eP (upF Ts q) i).1), Value.int .i64 ((eP (upF Ts q) i).2)], 2⟩) (off := 0) rfl rfl (by exact rfl))) ?_
    refine TL.gets (Wants.none rfl) rfl (Gets.load1 rfl agg3 rfl (At.ent (i := 1) (ent := ⟨g2, 3, [Value.int .i64 (endF (upF Ts q) i)], 1⟩) (off := 0) rfl rfl (by exact rfl))) ?_
    refine TL.gets (Wants.none rfl) rfl (Gets.lss rfl rfl rfl) ?_
    refine TL.nil ?_
    refine TE.then ?_
    refine TC.split rfl (fun hq0 => ?_) (fun hq0 => ?_)
    · refine TC.seq ?_
      refine TC.regionL ?_
      refine TL.store1 (Wants.none rfl) rfl rfl size4 rfl rfl rfl (i := 2) rfl rfl (by simp [] <;> omega) (cs' := [Value.bool true]) (rfl) (H' := [⟨y, 49, [Value.int .i64 ((eP (upF Ts q) i).1), Value.int .i64 ((eP (upF Ts q) i).2)], 2⟩, ⟨g2, 3, [Value.int .i64 (endF (upF Ts q) i)], 1⟩, ⟨g1, 4, [Value.bool true], 1⟩]) rfl ?_
      refine TL.nil ?_
      refine TE.then ?_
      refine TC.ret ?_
      refine TE.thenR ?_
      refine TE.blockR ?_
      exact TE.roundR ⟨i, _, hqq, hq0⟩ [⟨y, 49, [Value.int .i64 ((eP (upF Ts q) i).1), Value.int .i64 ((eP (upF Ts q) i).2)], 2⟩] (by intro e he; simp only [List.mem_cons, List.not_mem_nil, or_false] at he; subst he; first | exact Nat.le_refl _ | (dsimp only; omega)) (fun w h => h)
    · refine TC.skip ?_
      refine TE.then ?_
      refine TC.regionL ?_
      refine TL.gets (Wants.none rfl) rfl (Gets.loadN rfl agg49 size49 rfl (vs := [Value.int .i64 ((eP (upF Ts q) i).1), Value.int .i64 ((eP (upF Ts q) i).2)]) (by simp []) (Row.all (i := 0) (ent := ⟨y, 49, [Value.int .i64 ((eP (upF Ts q) i).1), Value.int .i64 ((eP (upF Ts q) i).2)], 2⟩) rfl rfl rfl)) ?_
      refine TL.call0 (Wants.none rfl) rfl enters42 rfl rfl (v := .int .i64 (((eP (upF Ts q) i).1) + ((eP (upF Ts q) i).2))) (fun w hs => end_c ((eP (upF Ts q) i).1) ((eP (upF Ts q) i).2) (by omega) w) ?_
      refine TL.store1 (Wants.none rfl) rfl rfl size3 rfl rfl rfl (i := 1) rfl rfl (by simp [] <;> omega) (cs' := [Value.int .i64 (((eP (upF Ts q) i).1) + ((eP (upF Ts q) i).2))]) (rfl) (H' := [⟨y, 49, [Value.int .i64 ((eP (upF Ts q) i).1), Value.int .i64 ((eP (upF Ts q) i).2)], 2⟩, ⟨g2, 3, [Value.int .i64 (((eP (upF Ts q) i).1) + ((eP (upF Ts q) i).2))], 1⟩, ⟨g1, 4, [Value.bool false], 1⟩]) rfl ?_
      refine TL.nil ?_
      refine TE.blockN ?_
      exact TE.roundN (nov_succ hC hqq hq0) [⟨y, 49, [Value.int .i64 ((eP (upF Ts q) i).1), Value.int .i64 ((eP (upF Ts q) i).2)], 2⟩] (by intro e he; simp only [List.mem_cons, List.not_mem_nil, or_false] at he; subst he; first | exact Nat.le_refl _ | (dsimp only; omega)) (fun w h => by rw [endF_succ hqq]; exact h)
  · have hno := nov_end hC
    refine TE.blockN ?_
    refine TE.then ?_
    refine TC.seq ?_
    refine TC.regionL ?_
    refine TL.store1 (Wants.none rfl) rfl rfl size4 rfl rfl rfl (i := 1) rfl rfl (by simp [] <;> omega) (cs' := [Value.bool false]) (rfl) (H' := [⟨g2, 3, [Value.int .i64 (endF (upF Ts q) ((upF Ts q).length))], 1⟩, ⟨g1, 4, [Value.bool false], 1⟩]) rfl ?_
    refine TL.nil ?_
    refine TE.then ?_
    refine TC.ret ?_
    refine TE.markR hM hW (by intro e he; simp only [List.mem_cons, List.not_mem_nil, or_false, List.cons_append, List.nil_append, List.append_nil] at he; rcases he with rfl | rfl <;> (first | assumption | (dsimp only; omega))) (by intro e he; simp only [List.mem_cons, List.not_mem_nil, or_false, List.cons_append, List.nil_append, List.append_nil] at he; rcases he with rfl | rfl <;> (first | exact .inr (by simp) | exact .inl (by assumption) | exact .inl (by dsimp only; omega))) ?_ (.inl rfl)
    exact TE.retC1 rfl agg4 rfl (At.ent (i := 1) (ent := ⟨g1, 4, [Value.bool false], 1⟩) (off := 0) rfl rfl (by exact rfl)) (fun w hs => ⟨dec_f hno, ((hs.drop (by assumption)).drop (by assumption))⟩) (.inl rfl)
  · refine TE.blockR ?_
    refine TE.thenR ?_
    refine TE.markR hM hW (by intro e he; simp only [List.mem_cons, List.not_mem_nil, or_false, List.cons_append, List.nil_append, List.append_nil] at he; rcases he with rfl | rfl <;> (first | assumption | (dsimp only; omega))) (by intro e he; simp only [List.mem_cons, List.not_mem_nil, or_false, List.cons_append, List.nil_append, List.append_nil] at he; rcases he with rfl | rfl <;> (first | exact .inr (by simp) | exact .inl (by assumption) | exact .inl (by dsimp only; omega))) ?_ (.inl rfl)
    exact TE.retC1 rfl agg4 rfl (At.ent (i := 1) (ent := ⟨g1, 4, [Value.bool true], 1⟩) (off := 0) rfl rfl (by exact rfl)) (fun w hs => ⟨dec_t hC, ((hs.drop (by assumption)).drop (by assumption))⟩) (.inl rfl)
  · exact hC.elim

set_option maxRecDepth 100000 in
set_option maxHeartbeats 1000000 in
theorem gap_c (p1 p2 gt m : Nat) (Ts : List TV) (q : Int) (hq : -9223372036854775808 ≤ q ∧ q ≤ 9223372036854775807) (hm : m ≤ 1000000000) (hnum : ∀ t ∈ Ts, (-9223372036854775808 ≤ t.o ∧ t.o ≤ 9223372036854775807) ∧ (-9223372036854775808 ≤ t.l ∧ t.l ≤ 9223372036854775807) ∧ t.x ≤ 9223372036854775807) (n : Int) (hn0 : 0 ≤ n ∧ n ≤ 4611686018427387903) (hpos : posF (upF Ts q)) (hend : ∀ p ∈ upF Ts q, p.1 + p.2 ≤ n) (w : World) (hc : CapT w p1 p2 gt m Ts q) : Calls Try.prog 52 #[.func (.func 64) #[] #[.pointer (some ⟨p1, 0, none⟩), .pointer (some ⟨p2, 0, none⟩)]] w fun e w' => ∃ z : Int, e = .returned (.int .i64 z) ∧ gapR (upF Ts q) z ∧ St w [] w' := by
  have hc1 := hc.h1
  have hc2 := hc.h2
  have hc3 := hc.h3
  refine calls_fromM (args := [.func (.func 64) #[] #[.pointer (some ⟨p1, 0, none⟩), .pointer (some ⟨p2, 0, none⟩)]]) Try.func52 rfl Try.ntmps52 (by simp) ?_
  refine TC.sub (Sub.cons (i := 0) rfl (Sub.nil)) ?_
  refine TC.seq ?_
  refine TC.regionL ?_
  refine TL.gets (Wants.none rfl) rfl (Gets.assign rfl rfl) ?_
  refine TL.nil ?_
  refine TE.then ?_
  refine TC.seq ?_
  refine TC.regionL ?_
  refine TL.alloc (Wants.none rfl) rfl rfl zero3 (cs := [Value.int .i64 0]) rfl (tot := 1) (by simp) (fun g1 hg1 => ?_)
  refine TL.store1 (Wants.none rfl) rfl rfl size3 rfl rfl rfl (i := 0) rfl rfl (by simp [] <;> omega) (cs' := [Value.int .i64 0]) (rfl) (H' := [⟨g1, 3, [Value.int .i64 0], 1⟩]) rfl ?_
  refine TL.nil ?_
  refine TE.then ?_
  refine TC.seq ?_
  refine TC.seq ?_
  refine TC.regionL ?_
  refine TL.gets (Wants.none rfl) rfl (Gets.move rfl rfl) ?_
  refine TL.nil ?_
  refine TE.then ?_
  refine TC.block ?_
  refine TC.range (V := fun i => .agg ([Value.int .i64 ((eP (upF Ts q) i).1), Value.int .i64 ((eP (upF Ts q) i).2)]).toArray) (N := (upF Ts q).length) (c := 0) (Cap := capK p1 p2 gt) rfl rfl rfl rfl enters64 (fun w hs => upTo_iter p1 p2 gt m Ts q hq hm hnum w (hc.at_ hs (fun b hb => (ne_cons (by show g1 ≠ b; omega) ne_nil)))) (fun i => ∀ j r, j < i → (upF Ts q)[j]? = some r → r.1 ≤ endF (upF Ts q) j) (fun i => [⟨g1, 3, [Value.int .i64 (endF (upF Ts q) i)], 1⟩]) [] (fun i y => [(3, .pointer (some ⟨g1, 0, none⟩)), (4, .pointer (some ⟨y, 0, none⟩))]) (fun i y => [⟨y, 49, [Value.int .i64 ((eP (upF Ts q) i).1), Value.int .i64 ((eP (upF Ts q) i).2)], 2⟩]) (fun i => False) (fun i => [⟨g1, 3, [Value.int .i64 (endF (upF Ts q) i)], 1⟩]) 0 (fun i => gapR (upF Ts q) (endF (upF Ts q) (i - 1))) (fun i => [⟨g1, 3, [Value.int .i64 (endF (upF Ts q) (i - 1))], 1⟩]) (fun j r h => absurd h (Nat.not_lt_zero j)) (fun w h => h) (fun _ => rfl) (fun _ => rfl) (fun _ => rfl) (fun w hs k hk => ⟨Nat.lt_of_lt_of_le (hc.lt hk) hs.size, (have hb := hc.lt hk; (ne_cons (by show g1 ≠ k; omega) ne_nil))⟩) (fun i y e he => by rw [List.mem_singleton.1 he]; exact Nat.le_refl _) (fun l i v hiN hC hs0 => ?_) (fun l i y v hiN hC hy hyv hs0 => ?_) (fun D W hC hW hM => ?_) (fun D W i hiN hC hW hM => ?_) (fun D W i hiN hC hW hM => ?_)
  · refine TC.sub (Sub.cons (i := 3) rfl (Sub.cons (i := 6) rfl (Sub.nil))) ?_
    refine TC.regionL ?_
    refine TL.alloc (Wants.none rfl) rfl rfl zero49 (cs := [Value.int .i64 0, Value.int .i64 0]) rfl (tot := 2) (by simp) (fun g2 hg2 => ?_)
    refine TL.storeW (Wants.none rfl) rfl rfl size49 rfl (vs := [Value.int .i64 ((eP (upF Ts q) i).1), Value.int .i64 ((eP (upF Ts q) i).2)]) rfl (by simp []) (by simp [Value.oneCell']) (i := 0) (ent := ⟨g2, 49, [Value.int .i64 0, Value.int .i64 0], 2⟩) rfl rfl (by simp []) (H' := [⟨g2, 49, [Value.int .i64 ((eP (upF Ts q) i).1), Value.int .i64 ((eP (upF Ts q) i).2)], 2⟩, ⟨g1, 3, [Value.int .i64 (endF (upF Ts q) i)], 1⟩]) rfl ?_
    refine TL.nil ?_
    exact TE.ax g2 hg2 (fun w hs => Nat.le_of_lt (hs.has _ List.mem_cons_self).lt) (Sub.cons (i := 3) rfl (Sub.cons (i := 4) rfl (Sub.nil))) (fun w h => h)
  · have hqq := eP_at hiN
    have hqp := hpos _ (List.mem_of_getElem? hqq)
    have hqn := hend _ (List.mem_of_getElem? hqq)
    have heb := endF_bd hpos hend hn0.1 i
    refine TC.block ?_
    refine TC.seq ?_
    refine TC.seq ?_
    refine TC.regionL ?_
    refine TL.gets (Wants.none rfl) rfl (Gets.fieldAddr rfl Try.underlying49 rfl size3 rfl (off' := 0) (by first | rfl | omega)) ?_
    refine TL.gets (Wants.none rfl) rfl (Gets.load1 rfl agg3 rfl (At.ent (i := 0) (ent := ⟨y, 49, [Value.int .i64 ((eP (upF Ts q) i).1), Value.int .i64 ((eP (upF Ts q) i).2)], 2⟩) (off := 0) rfl rfl (by exact rfl))) ?_
    refine TL.gets (Wants.none rfl) rfl (Gets.load1 rfl agg3 rfl (At.ent (i := 1) (ent := ⟨g1, 3, [Value.int .i64 (endF (upF Ts q) i)], 1⟩) (off := 0) rfl rfl (by exact rfl))) ?_
    refine TL.gets (Wants.none rfl) rfl (Gets.gtr rfl rfl rfl) ?_
    refine TL.nil ?_
    refine TE.then ?_
    refine TC.split rfl (fun hq0 => ?_) (fun hq0 => ?_)
    · refine TC.exit ?_
      refine TE.thenX ?_
      refine TE.blockY rfl ?_
      exact TE.roundB ⟨i, Nat.le_of_lt hiN, rfl, hC, .inr ⟨_, hqq, hq0⟩⟩ [⟨y, 49, [Value.int .i64 ((eP (upF Ts q) i).1), Value.int .i64 ((eP (upF Ts q) i).2)], 2⟩] (by intro e he; simp only [List.mem_cons, List.not_mem_nil, or_false] at he; subst he; first | exact Nat.le_refl _ | (dsimp only; omega)) (fun w h => h)
    · refine TC.skip ?_
      refine TE.then ?_
      refine TC.regionL ?_
      refine TL.gets (Wants.none rfl) rfl (Gets.loadN rfl agg49 size49 rfl (vs := [Value.int .i64 ((eP (upF Ts q) i).1), Value.int .i64 ((eP (upF Ts q) i).2)]) (by simp []) (Row.all (i := 0) (ent := ⟨y, 49, [Value.int .i64 ((eP (upF Ts q) i).1), Value.int .i64 ((eP (upF Ts q) i).2)], 2⟩) rfl rfl rfl)) ?_
      refine TL.call0 (Wants.none rfl) rfl enters42 rfl rfl (v := .int .i64 (((eP (upF Ts q) i).1) + ((eP (upF Ts q) i).2))) (fun w hs => end_c ((eP (upF Ts q) i).1) ((eP (upF Ts q) i).2) (by omega) w) ?_
      refine TL.store1 (Wants.none rfl) rfl rfl size3 rfl rfl rfl (i := 1) rfl rfl (by simp [] <;> omega) (cs' := [Value.int .i64 (((eP (upF Ts q) i).1) + ((eP (upF Ts q) i).2))]) (rfl) (H' := [⟨y, 49, [Value.int .i64 ((eP (upF Ts q) i).1), Value.int .i64 ((eP (upF Ts q) i).2)], 2⟩, ⟨g1, 3, [Value.int .i64 (((eP (upF Ts q) i).1) + ((eP (upF Ts q) i).2))], 1⟩]) rfl ?_
      refine TL.nil ?_
      refine TE.blockN ?_
      exact TE.roundN (ngap_succ hC hqq hq0) [⟨y, 49, [Value.int .i64 ((eP (upF Ts q) i).1), Value.int .i64 ((eP (upF Ts q) i).2)], 2⟩] (by intro e he; simp only [List.mem_cons, List.not_mem_nil, or_false] at he; subst he; first | exact Nat.le_refl _ | (dsimp only; omega)) (fun w h => by rw [endF_succ hqq]; exact h)
  · have hG : gapR (upF Ts q) (endF (upF Ts q) (upF Ts q).length) := ⟨_, Nat.le_refl _, rfl, hC, .inl rfl⟩
    refine TE.blockN ?_
    refine TE.then ?_
    refine TC.seq ?_
    refine TC.regionL ?_
    refine TL.gets (Wants.none rfl) rfl (Gets.load1 rfl agg3 rfl (At.ent (i := 0) (ent := ⟨g1, 3, [Value.int .i64 (endF (upF Ts q) ((upF Ts q).length))], 1⟩) (off := 0) rfl rfl (by exact rfl))) ?_
    refine TL.gets (Wants.none rfl) rfl (Gets.assign rfl rfl) ?_
    refine TL.nil ?_
    refine TE.then ?_
    refine TC.ret ?_
    refine TE.markR hM hW (by intro e he; simp only [List.mem_cons, List.not_mem_nil, or_false, List.cons_append, List.nil_append, List.append_nil] at he; subst he; first | assumption | (dsimp only; omega)) (by intro e he; simp only [List.mem_cons, List.not_mem_nil, or_false, List.cons_append, List.nil_append, List.append_nil] at he; subst he; first | exact .inr (by simp) | exact .inl (by assumption) | exact .inl (by dsimp only; omega)) ?_ (.inl rfl)
    exact TE.ret1 rfl rfl (fun w hs => ⟨_, rfl, hG, (hs.drop (by assumption))⟩)
  · exact hC.elim
  · have hG : gapR (upF Ts q) (endF (upF Ts q) i) := hC
    refine TE.blockX ?_
    refine TE.then ?_
    refine TC.seq ?_
    refine TC.regionL ?_
    refine TL.gets (Wants.none rfl) rfl (Gets.load1 rfl agg3 rfl (At.ent (i := 0) (ent := ⟨g1, 3, [Value.int .i64 (endF (upF Ts q) (i + 1 - 1))], 1⟩) (off := 0) rfl rfl (by exact rfl))) ?_
    refine TL.gets (Wants.none rfl) rfl (Gets.assign rfl rfl) ?_
    refine TL.nil ?_
    refine TE.then ?_
    refine TC.ret ?_
    refine TE.markR hM hW (by intro e he; simp only [List.mem_cons, List.not_mem_nil, or_false, List.cons_append, List.nil_append, List.append_nil] at he; subst he; first | assumption | (dsimp only; omega)) (by intro e he; simp only [List.mem_cons, List.not_mem_nil, or_false, List.cons_append, List.nil_append, List.append_nil] at he; subst he; first | exact .inr (by simp) | exact .inl (by assumption) | exact .inl (by dsimp only; omega)) ?_ (.inl rfl)
    exact TE.ret1 rfl rfl (fun w hs => ⟨_, rfl, hG, (hs.drop (by assumption))⟩)
end Go.Proofs.Ytkgamkjdkapchaa
