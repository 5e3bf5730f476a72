/-
  Parse.
-/
import Derived.Test.YtdcphpmkhekghaaDoorShaM
namespace Go.Proofs.YtdcphpmkhekghaaDoor
set_option linter.unusedVariables false
set_option linter.unusedSimpArgs false
open Go Go.RowKit
theorem enters27 : Enters Tryd.prog 27 := ⟨_, Tryd.func27, by kernel_rfl, by kernel_rfl⟩

theorem TE.retCT {P : Program} {n : Nat} {w0 : World} {L : List (Nat × Value)} {H : List Ent} {t : TypeId} {u : Value} {fn : Func} {R : Ending → World → Prop} {i j g off s : Nat} {vs : List Value} (hres : fn.results = #[.cell i t, .tmp j]) (hag : (isAgg t).run P = fun w => .ok true w) (hsz : (P.info? t).map (·.size) = some s)
    (hx : look L i = some (.pointer (some ⟨g, off, none⟩))) (hy : look L j = some u) (hl : vs.length = s) (hc : Row w0 H g off vs) (h : ∀ w, St w0 H w → R (.returned (.tuple #[.agg vs.toArray, u])) w) : TE (bodyPost P fn R) .ret n w0 L H := fun a w hf hs => by
  refine ⟨hf.1, _, ?_, h w hs⟩
  have h1 : (a.tmps[i]?.getD undef) = .pointer (some ⟨g, off, none⟩) := by simp [hf.2.2 i _ hx]
  have h3 : (a.tmps[j]?.getD undef) = u := by simp [hf.2.2 j _ hy]
  have h2 := run_loadCells (P := P) (w := w) (b := g) (off := off) s 0 #[] vs hl (fun j u hu => by rw [Nat.zero_add]; exact hc w hs j u hu)
  simp only [results, hres]
  simp [Sem.run_bind, loadVar, hag, run_size hsz, loadCells]
  simp [h1, h3, asAddr, h2]
theorem good_step {s : ByteArray} {k : Nat} (h : goodTo s (2 * k)) (h1 : 0 ≤ hexV (chrI s (2 * k))) (h2 : 0 ≤ hexV (chrI s (2 * k + 1))) : goodTo s (2 * (k + 1)) := fun j hj => by
  by_cases e1 : j = 2 * k
  · rw [e1]; exact h1
  · by_cases e2 : j = 2 * k + 1
    · rw [e2]; exact h2
    · exact h j (by omega)
theorem hexV_hi (s : ByteArray) (j : Nat) : -1 ≤ hexV (chrI s j) ∧ hexV (chrI s j) < 16 := by
  have h := chrI_bd s j
  rcases hexV_or h.1 h.2 with h | h <;> omega

set_option maxRecDepth 100000 in
set_option maxHeartbeats 400000 in
theorem parseYes_c (s : ByteArray) (w : World) (hr : rightP s) (hsz : s.size ≤ 9223372036854775807) : Calls Tryd.prog 17 #[.string s] w fun e w' => e = .returned (Value.tuple #[.agg ((prs s 32).map (Value.int .u8)).toArray, .bool true]) ∧ St w [] w' := by
  have hs64 := hr.1
  refine calls_from (args := [.string s]) Tryd.func17 rfl Tryd.ntmps17 (by simp) ?_
  refine TC.sub (Sub.cons (i := 0) rfl (Sub.nil)) ?_
  refine TC.seq ?_
  refine TC.regionL ?_
  refine TL.alloc (Wants.none rfl) rfl rfl zero24 (cs := (List.replicate 32 0).map (Value.int .u8)) rfl (tot := 32) (by simp) (fun g1 hg1 => ?_)
  refine TL.gets (Wants.none rfl) rfl (Gets.assign rfl rfl) ?_
  refine TL.nil ?_
  refine TE.then ?_
  refine TC.seq ?_
  refine TC.regionL ?_
  refine TL.alloc (Wants.none rfl) rfl rfl zero24 (cs := (List.replicate 32 0).map (Value.int .u8)) rfl (tot := 32) (by simp) (fun g2 hg2 => ?_)
  refine TL.nil ?_
  refine TE.then ?_
  refine TC.seq ?_
  refine TC.seq ?_
  refine TC.regionL ?_
  refine TL.gets (Wants.none rfl) rfl (Gets.move rfl rfl) ?_
  refine TL.gets (Wants.none rfl) rfl (Gets.lenString rfl Tryd.underlying9 rfl) ?_
  refine TL.gets (Wants.none rfl) rfl (Gets.neq rfl rfl rfl) ?_
  refine TL.nil ?_
  refine TE.then ?_
  refine TC.split rfl (fun hq0 => ?_) (fun hq0 => ?_)
  · exfalso; have := hr.1; omega
  · refine TC.skip ?_
    refine TE.then ?_
    refine TC.seq ?_
    refine TC.seq ?_
    refine TC.regionL ?_
    refine TL.gets (Wants.none rfl) rfl (Gets.move rfl rfl) ?_
    refine TL.nil ?_
    refine TE.then ?_
    refine TC.block ?_
    refine TC.loop (ι := Nat) (fun k => [(0, .string s), (2, .pointer (some ⟨g1, 0, none⟩)), (4, .pointer (some ⟨g2, 0, none⟩)), (12, .int .i64 (k : Int))]) (fun k => [⟨g2, 24, (prs s k).map (Value.int .u8), 32⟩, ⟨g1, 24, (List.replicate 32 0).map (Value.int .u8), 32⟩]) (fun k => 32 - k) (fun k => k ≤ 32 ∧ goodTo s (2 * k)) 0 ⟨by omega, fun j hj => absurd hj (Nat.not_lt_zero j)⟩ (Sub.cons (i := 0) rfl (Sub.cons (i := 2) rfl (Sub.cons (i := 4) rfl (Sub.int (i := 12) rfl (by first | omega | rfl) (Sub.nil))))) (fun w h => h) (fun k hC0 => ?_)
    obtain ⟨hk32, hgood⟩ := hC0
    have hC0 : k ≤ 32 ∧ goodTo s (2 * k) := ⟨hk32, hgood⟩
    have hv1 := hexV_hi s (2 * k)
    have hv2 := hexV_hi s (2 * k + 1)
    refine TC.seq ?_
    refine TC.regionL ?_
    refine TL.gets (Wants.none rfl) rfl (Gets.lss rfl rfl rfl) ?_
    refine TL.nil ?_
    refine TE.then ?_
    refine TC.seq ?_
    refine TC.split rfl (fun hq1 => ?_) (fun hq1 => ?_)
    · refine TC.skip ?_
      refine TE.then ?_
      refine TC.seq ?_
      refine TC.block ?_
      refine TC.seq ?_
      refine TC.regionL ?_
      refine TL.gets (Wants.none rfl) rfl (Gets.move rfl rfl) ?_
      refine TL.gets (Wants.none rfl) rfl (Gets.assign rfl rfl) ?_
      refine TL.nil ?_
      refine TE.then ?_
      refine TC.seq ?_
      refine TC.mix (by kernel_rfl) [0, 0, 0, 0, 1, 0, 0, 0, 0, 0, 1, 0, 0] rfl (by kernel_rfl) ?_
      refine TM.free (Wants.none rfl) rfl (fun _ => Gets.move rfl rfl) ?_
      refine TM.free (Wants.none rfl) rfl (fun _ => Gets.move rfl rfl) ?_
      refine TM.free (Wants.none rfl) rfl (fun _ => Gets.mul rfl rfl rfl (r := (2 * (k : Int))) (w64 (by omega) (by omega))) ?_
      refine TM.free (Wants.none rfl) rfl (fun _ => Gets.congr (Gets.indexStr (str := s) rfl Tryd.underlying9 rfl rfl (i := (2 * k)) (by omega) (show (2 * k) < s.size by omega)) (v := .int .u8 (chrI s (2 * k))) (congrArg (Value.int .u8) (chrI_is _))) ?_
      refine TM.call0 (Wants.none rfl) rfl enters27 rfl rfl (v := .int .i64 (hexV (chrI s (2 * k)))) (fun w hs => indexByte_c (chrI s (2 * k)) w (chrI_bd s (2 * k)).1 (chrI_bd s (2 * k)).2) ?_
      refine TM.free (Wants.none rfl) rfl (fun _ => Gets.move rfl rfl) ?_
      refine TM.free (Wants.none rfl) rfl (fun _ => Gets.move rfl rfl) ?_
      refine TM.free (Wants.none rfl) rfl (fun _ => Gets.mul rfl rfl rfl (r := (2 * (k : Int))) (w64 (by omega) (by omega))) ?_
      refine TM.free (Wants.none rfl) rfl (fun _ => Gets.add rfl rfl rfl (r := (2 * (k : Int) + 1)) (w64 (by omega) (by omega))) ?_
      refine TM.free (Wants.none rfl) rfl (fun _ => Gets.congr (Gets.indexStr (str := s) rfl Tryd.underlying9 rfl rfl (i := (2 * k + 1)) (by omega) (show (2 * k + 1) < s.size by omega)) (v := .int .u8 (chrI s (2 * k + 1))) (congrArg (Value.int .u8) (chrI_is _))) ?_
      refine TM.call0 (Wants.none rfl) rfl enters27 rfl rfl (v := .int .i64 (hexV (chrI s (2 * k + 1)))) (fun w hs => indexByte_c (chrI s (2 * k + 1)) w (chrI_bd s (2 * k + 1)).1 (chrI_bd s (2 * k + 1)).2) ?_
      refine TM.free (Wants.none rfl) rfl (fun _ => Gets.assign rfl rfl) ?_
      refine TM.free (Wants.none rfl) rfl (fun _ => Gets.assign rfl rfl) ?_
      refine TM.nil ?_
      refine TE.then ?_
      refine TC.sub (Sub.cons (i := 0) rfl (Sub.cons (i := 2) rfl (Sub.cons (i := 4) rfl (Sub.cons (i := 5) rfl (Sub.cons (i := 6) rfl (Sub.cons (i := 7) rfl (Sub.cons (i := 12) rfl (Sub.nil)))))))) ?_
      refine TC.seq ?_
      refine TC.seq ?_
      refine TC.regionL ?_
      refine TL.gets (Wants.none rfl) rfl (Gets.move rfl rfl) ?_
      refine TL.gets (Wants.none rfl) rfl (Gets.isFalse (Gets.lss rfl rfl rfl) (by have := hr.2 (2 * k) (by omega); omega)) ?_
      refine TL.gets (Wants.none rfl) rfl (Gets.move rfl rfl) ?_
      refine TL.gets (Wants.yes rfl rfl rfl) rfl (Gets.move rfl rfl) ?_
      refine TL.gets (Wants.yes rfl rfl rfl) rfl (Gets.isFalse (Gets.lss rfl rfl rfl) (by have := hr.2 (2 * k + 1) (by omega); omega)) ?_
      refine TL.gets (Wants.none rfl) rfl (Gets.pickF rfl rfl rfl) ?_
      refine TL.nil ?_
      refine TE.then ?_
      refine TC.sub (Sub.cons (i := 0) rfl (Sub.cons (i := 2) rfl (Sub.cons (i := 4) rfl (Sub.cons (i := 5) rfl (Sub.cons (i := 6) rfl (Sub.cons (i := 7) rfl (Sub.cons (i := 12) rfl (Sub.cons (i := 31) rfl (Sub.nil))))))))) ?_
      refine TC.no rfl ?_
      refine TC.skip ?_
      refine TE.then ?_
      refine TC.regionL ?_
      refine TL.gets (Wants.none rfl) rfl (Gets.move rfl rfl) ?_
      refine TL.gets (Wants.none rfl) rfl (Gets.move rfl rfl) ?_
      refine TL.gets (Wants.none rfl) rfl (Gets.shl rfl rfl rfl (by omega) (r := (shlI .i64 (hexV (chrI s (2 * k))) 4)) rfl) ?_
      refine TL.gets (Wants.none rfl) rfl (Gets.move rfl rfl) ?_
      refine TL.gets (Wants.none rfl) rfl (Gets.or rfl rfl rfl (r := (orI .i64 (shlI .i64 (hexV (chrI s (2 * k))) 4) (hexV (chrI s (2 * k + 1))))) rfl) ?_
      refine TL.gets (Wants.none rfl) rfl (Gets.conv rfl Tryd.underlying3 Tryd.underlying5 rfl (r := (IntKind.u8.wrap (orI .i64 (shlI .i64 (hexV (chrI s (2 * k))) 4) (hexV (chrI s (2 * k + 1)))))) rfl) ?_
      refine TL.gets (Wants.none rfl) rfl (Gets.idxArray rfl Tryd.underlying24 size5 rfl rfl (i := k) (by omega) (by omega) (off' := k) (by omega)) ?_
      refine TL.store1 (Wants.none rfl) rfl rfl size5 rfl rfl rfl (i := 0) rfl rfl (by simp [(prs_len s k)] <;> omega) (cs' := ((prs s k).set k (IntKind.u8.wrap (orI .i64 (shlI .i64 (hexV (chrI s (2 * k))) 4) (hexV (chrI s (2 * k + 1)))))).map (Value.int .u8)) (ints_set) (H' := [⟨g2, 24, ((prs s k).set k (IntKind.u8.wrap (orI .i64 (shlI .i64 (hexV (chrI s (2 * k))) 4) (hexV (chrI s (2 * k + 1)))))).map (Value.int .u8), 32⟩, ⟨g1, 24, (List.replicate 32 0).map (Value.int .u8), 32⟩]) rfl ?_
      refine TL.nil ?_
      refine TE.blockN ?_
      refine TE.then ?_
      refine TC.sub (Sub.cons (i := 0) rfl (Sub.cons (i := 2) rfl (Sub.cons (i := 4) rfl (Sub.cons (i := 12) rfl (Sub.nil))))) ?_
      refine TC.regionL ?_
      refine TL.gets (Wants.none rfl) rfl (Gets.add rfl rfl rfl (r := ((k : Int) + 1)) (w64 (by omega) (by omega))) ?_
      refine TL.gets (Wants.none rfl) rfl (Gets.move rfl rfl) ?_
      refine TL.nil ?_
      exact TE.back (k + 1) (by omega) ⟨by omega, good_step hC0.2 (by have := hr.2 (2 * k) (by omega); omega) (by have := hr.2 (2 * k + 1) (by omega); omega)⟩ (Sub.cons (i := 0) rfl (Sub.cons (i := 2) rfl (Sub.cons (i := 4) rfl (Sub.int (i := 12) rfl (by first | omega | rfl) (Sub.nil))))) (fun w h => h)
    · obtain rfl : k = 32 := by omega
      have Dl := prs_len s 32
      generalize hD : prs s 32 = D at Dl ⊢
      refine TC.exit ?_
      refine TE.thenX ?_
      refine TE.thenX ?_
      refine TE.blockX ?_
      refine TE.then ?_
      refine TC.seq ?_
      refine TC.regionL ?_
      refine TL.gets (Wants.none rfl) rfl (Gets.loadN rfl agg24 size24 rfl (vs := D.map (Value.int .u8)) (by simp [Dl]) (Row.all (i := 0) (ent := ⟨g2, 24, D.map (Value.int .u8), 32⟩) rfl rfl rfl)) ?_
      refine TL.storeW (Wants.none rfl) rfl rfl size24 rfl (vs := D.map (Value.int .u8)) rfl (by simp [Dl]) ints_one (i := 1) (ent := ⟨g1, 24, (List.replicate 32 0).map (Value.int .u8), 32⟩) rfl rfl (by simp []) (H' := [⟨g2, 24, D.map (Value.int .u8), 32⟩, ⟨g1, 24, D.map (Value.int .u8), 32⟩]) rfl ?_
      refine TL.gets (Wants.none rfl) rfl (Gets.assign rfl rfl) ?_
      refine TL.nil ?_
      refine TE.then ?_
      refine TC.ret ?_
      exact TE.retCT rfl agg24 size24 rfl rfl (vs := D.map (Value.int .u8)) (by simp [Dl]) (Row.all (i := 1) (ent := ⟨g1, 24, D.map (Value.int .u8), 32⟩) rfl rfl rfl) (fun w hs => ⟨rfl, ((hs.drop (by assumption)).drop (by assumption))⟩)

set_option maxRecDepth 100000 in
set_option maxHeartbeats 400000 in
theorem parseNo_c (s : ByteArray) (w : World) (hr : ¬ rightP s) (hsz : s.size ≤ 9223372036854775807) : Calls Tryd.prog 17 #[.string s] w fun e w' => e = .returned (Value.tuple #[.agg ((List.replicate 32 (0 : Int)).map (Value.int .u8)).toArray, .bool false]) ∧ St w [] w' := by
  refine calls_from (args := [.string s]) Tryd.func17 rfl Tryd.ntmps17 (by simp) ?_
  refine TC.sub (Sub.cons (i := 0) rfl (Sub.nil)) ?_
  refine TC.seq ?_
  refine TC.regionL ?_
  refine TL.alloc (Wants.none rfl) rfl rfl zero24 (cs := (List.replicate 32 0).map (Value.int .u8)) rfl (tot := 32) (by simp) (fun g1 hg1 => ?_)
  refine TL.gets (Wants.none rfl) rfl (Gets.assign rfl rfl) ?_
  refine TL.nil ?_
  refine TE.then ?_
  refine TC.seq ?_
  refine TC.regionL ?_
  refine TL.alloc (Wants.none rfl) rfl rfl zero24 (cs := (List.replicate 32 0).map (Value.int .u8)) rfl (tot := 32) (by simp) (fun g2 hg2 => ?_)
  refine TL.nil ?_
  refine TE.then ?_
  refine TC.seq ?_
  refine TC.seq ?_
  refine TC.regionL ?_
  refine TL.gets (Wants.none rfl) rfl (Gets.move rfl rfl) ?_
  refine TL.gets (Wants.none rfl) rfl (Gets.lenString rfl Tryd.underlying9 rfl) ?_
  refine TL.gets (Wants.none rfl) rfl (Gets.neq rfl rfl rfl) ?_
  refine TL.nil ?_
  refine TE.then ?_
  refine TC.split rfl (fun hq0 => ?_) (fun hq0 => ?_)
  · refine TC.seq ?_
    refine TC.regionL ?_
    refine TL.gets (Wants.none rfl) rfl (Gets.loadN rfl agg24 size24 rfl (vs := (List.replicate 32 0).map (Value.int .u8)) (by simp []) (Row.all (i := 0) (ent := ⟨g2, 24, (List.replicate 32 0).map (Value.int .u8), 32⟩) rfl rfl rfl)) ?_
    refine TL.storeW (Wants.none rfl) rfl rfl size24 rfl (vs := (List.replicate 32 0).map (Value.int .u8)) rfl (by simp []) ints_one (i := 1) (ent := ⟨g1, 24, (List.replicate 32 0).map (Value.int .u8), 32⟩) rfl rfl (by simp []) (H' := [⟨g2, 24, (List.replicate 32 0).map (Value.int .u8), 32⟩, ⟨g1, 24, (List.replicate 32 0).map (Value.int .u8), 32⟩]) rfl ?_
    refine TL.gets (Wants.none rfl) rfl (Gets.assign rfl rfl) ?_
    refine TL.nil ?_
    refine TE.then ?_
    refine TC.ret ?_
    refine TE.thenR ?_
    exact TE.retCT rfl agg24 size24 rfl rfl (vs := (List.replicate 32 0).map (Value.int .u8)) (by simp []) (Row.all (i := 1) (ent := ⟨g1, 24, (List.replicate 32 0).map (Value.int .u8), 32⟩) rfl rfl rfl) (fun w hs => ⟨rfl, ((hs.drop (by assumption)).drop (by assumption))⟩)
  · refine TC.skip ?_
    refine TE.then ?_
    refine TC.seq ?_
    refine TC.seq ?_
    refine TC.regionL ?_
    refine TL.gets (Wants.none rfl) rfl (Gets.move rfl rfl) ?_
    refine TL.nil ?_
    refine TE.then ?_
    refine TC.block ?_
    refine TC.loop (ι := Nat) (fun k => [(0, .string s), (2, .pointer (some ⟨g1, 0, none⟩)), (4, .pointer (some ⟨g2, 0, none⟩)), (12, .int .i64 (k : Int))]) (fun k => [⟨g2, 24, (prs s k).map (Value.int .u8), 32⟩, ⟨g1, 24, (List.replicate 32 0).map (Value.int .u8), 32⟩]) (fun k => 32 - k) (fun k => k ≤ 32 ∧ goodTo s (2 * k)) 0 ⟨by omega, fun j hj => absurd hj (Nat.not_lt_zero j)⟩ (Sub.cons (i := 0) rfl (Sub.cons (i := 2) rfl (Sub.cons (i := 4) rfl (Sub.int (i := 12) rfl (by first | omega | rfl) (Sub.nil))))) (fun w h => h) (fun k hC0 => ?_)
    obtain ⟨hk32, hgood⟩ := hC0
    have hC0 : k ≤ 32 ∧ goodTo s (2 * k) := ⟨hk32, hgood⟩
    have hv1 := hexV_hi s (2 * k)
    have hv2 := hexV_hi s (2 * k + 1)
    refine TC.seq ?_
    refine TC.regionL ?_
    refine TL.gets (Wants.none rfl) rfl (Gets.lss rfl rfl rfl) ?_
    refine TL.nil ?_
    refine TE.then ?_
    refine TC.seq ?_
    refine TC.split rfl (fun hq1 => ?_) (fun hq1 => ?_)
    · refine TC.skip ?_
      refine TE.then ?_
      refine TC.seq ?_
      refine TC.block ?_
      refine TC.seq ?_
      refine TC.regionL ?_
      refine TL.gets (Wants.none rfl) rfl (Gets.move rfl rfl) ?_
      refine TL.gets (Wants.none rfl) rfl (Gets.assign rfl rfl) ?_
      refine TL.nil ?_
      refine TE.then ?_
      refine TC.seq ?_
      refine TC.mix (by kernel_rfl) [0, 0, 0, 0, 1, 0, 0, 0, 0, 0, 1, 0, 0] rfl (by kernel_rfl) ?_
      refine TM.free (Wants.none rfl) rfl (fun _ => Gets.move rfl rfl) ?_
      refine TM.free (Wants.none rfl) rfl (fun _ => Gets.move rfl rfl) ?_
      refine TM.free (Wants.none rfl) rfl (fun _ => Gets.mul rfl rfl rfl (r := (2 * (k : Int))) (w64 (by omega) (by omega))) ?_
      refine TM.free (Wants.none rfl) rfl (fun _ => Gets.congr (Gets.indexStr (str := s) rfl Tryd.underlying9 rfl rfl (i := (2 * k)) (by omega) (show (2 * k) < s.size by omega)) (v := .int .u8 (chrI s (2 * k))) (congrArg (Value.int .u8) (chrI_is _))) ?_
      refine TM.call0 (Wants.none rfl) rfl enters27 rfl rfl (v := .int .i64 (hexV (chrI s (2 * k)))) (fun w hs => indexByte_c (chrI s (2 * k)) w (chrI_bd s (2 * k)).1 (chrI_bd s (2 * k)).2) ?_
      refine TM.free (Wants.none rfl) rfl (fun _ => Gets.move rfl rfl) ?_
      refine TM.free (Wants.none rfl) rfl (fun _ => Gets.move rfl rfl) ?_
      refine TM.free (Wants.none rfl) rfl (fun _ => Gets.mul rfl rfl rfl (r := (2 * (k : Int))) (w64 (by omega) (by omega))) ?_
      refine TM.free (Wants.none rfl) rfl (fun _ => Gets.add rfl rfl rfl (r := (2 * (k : Int) + 1)) (w64 (by omega) (by omega))) ?_
      refine TM.free (Wants.none rfl) rfl (fun _ => Gets.congr (Gets.indexStr (str := s) rfl Tryd.underlying9 rfl rfl (i := (2 * k + 1)) (by omega) (show (2 * k + 1) < s.size by omega)) (v := .int .u8 (chrI s (2 * k + 1))) (congrArg (Value.int .u8) (chrI_is _))) ?_
      refine TM.call0 (Wants.none rfl) rfl enters27 rfl rfl (v := .int .i64 (hexV (chrI s (2 * k + 1)))) (fun w hs => indexByte_c (chrI s (2 * k + 1)) w (chrI_bd s (2 * k + 1)).1 (chrI_bd s (2 * k + 1)).2) ?_
      refine TM.free (Wants.none rfl) rfl (fun _ => Gets.assign rfl rfl) ?_
      refine TM.free (Wants.none rfl) rfl (fun _ => Gets.assign rfl rfl) ?_
      refine TM.nil ?_
      refine TE.then ?_
      refine TC.sub (Sub.cons (i := 0) rfl (Sub.cons (i := 2) rfl (Sub.cons (i := 4) rfl (Sub.cons (i := 5) rfl (Sub.cons (i := 6) rfl (Sub.cons (i := 7) rfl (Sub.cons (i := 12) rfl (Sub.nil)))))))) ?_
      refine TC.seq ?_
      refine TC.seq ?_
      refine TC.regionL ?_
      refine TL.gets (Wants.none rfl) rfl (Gets.move rfl rfl) ?_
      by_cases hh : (hexV (chrI s (2 * k))) < 0
      · refine TL.gets (Wants.none rfl) rfl (Gets.isTrue (Gets.lss rfl rfl rfl) hh) ?_
        refine TL.gets (Wants.none rfl) rfl (Gets.move rfl rfl) ?_
        refine TL.pass rfl rfl rfl rfl rfl ?_
        refine TL.pass rfl rfl rfl rfl rfl ?_
        refine TL.gets (Wants.none rfl) rfl (Gets.pickT rfl rfl rfl) ?_
        refine TL.nil ?_
        refine TE.then ?_
        refine TC.sub (Sub.cons (i := 0) rfl (Sub.cons (i := 2) rfl (Sub.cons (i := 4) rfl (Sub.cons (i := 5) rfl (Sub.cons (i := 6) rfl (Sub.cons (i := 7) rfl (Sub.cons (i := 12) rfl (Sub.cons (i := 31) rfl (Sub.nil))))))))) ?_
        refine TC.yes rfl ?_
        refine TC.seq ?_
        refine TC.regionL ?_
        refine TL.gets (Wants.none rfl) rfl (Gets.build rfl (vs := []) rfl (fun w => by kernel_rfl) (v := .agg ((List.replicate 32 0).map (Value.int .u8)).toArray)) ?_
        refine TL.storeW (Wants.none rfl) rfl rfl size24 rfl (vs := (List.replicate 32 0).map (Value.int .u8)) rfl (by simp []) ints_one (i := 1) (ent := ⟨g1, 24, (List.replicate 32 0).map (Value.int .u8), 32⟩) rfl rfl (by simp []) (H' := [⟨g2, 24, (prs s k).map (Value.int .u8), 32⟩, ⟨g1, 24, (List.replicate 32 0).map (Value.int .u8), 32⟩]) rfl ?_
        refine TL.gets (Wants.none rfl) rfl (Gets.assign rfl rfl) ?_
        refine TL.nil ?_
        refine TE.then ?_
        refine TC.ret ?_
        refine TE.thenR ?_
        refine TE.blockR ?_
        refine TE.thenR ?_
        refine TE.thenR ?_
        refine TE.blockR ?_
        refine TE.thenR ?_
        exact TE.retCT rfl agg24 size24 rfl rfl (vs := (List.replicate 32 0).map (Value.int .u8)) (by simp []) (Row.all (i := 1) (ent := ⟨g1, 24, (List.replicate 32 0).map (Value.int .u8), 32⟩) rfl rfl rfl) (fun w hs => ⟨rfl, ((hs.drop (by assumption)).drop (by assumption))⟩)
      · refine TL.gets (Wants.none rfl) rfl (Gets.isFalse (Gets.lss rfl rfl rfl) hh) ?_
        refine TL.gets (Wants.none rfl) rfl (Gets.move rfl rfl) ?_
        refine TL.gets (Wants.yes rfl rfl rfl) rfl (Gets.move rfl rfl) ?_
        by_cases hl : (hexV (chrI s (2 * k + 1))) < 0
        · refine TL.gets (Wants.yes rfl rfl rfl) rfl (Gets.isTrue (Gets.lss rfl rfl rfl) hl) ?_
          refine TL.gets (Wants.none rfl) rfl (Gets.pickF rfl rfl rfl) ?_
          refine TL.nil ?_
          refine TE.then ?_
          refine TC.sub (Sub.cons (i := 0) rfl (Sub.cons (i := 2) rfl (Sub.cons (i := 4) rfl (Sub.cons (i := 5) rfl (Sub.cons (i := 6) rfl (Sub.cons (i := 7) rfl (Sub.cons (i := 12) rfl (Sub.cons (i := 31) rfl (Sub.nil))))))))) ?_
          refine TC.yes rfl ?_
          refine TC.seq ?_
          refine TC.regionL ?_
          refine TL.gets (Wants.none rfl) rfl (Gets.build rfl (vs := []) rfl (fun w => by kernel_rfl) (v := .agg ((List.replicate 32 0).map (Value.int .u8)).toArray)) ?_
          refine TL.storeW (Wants.none rfl) rfl rfl size24 rfl (vs := (List.replicate 32 0).map (Value.int .u8)) rfl (by simp []) ints_one (i := 1) (ent := ⟨g1, 24, (List.replicate 32 0).map (Value.int .u8), 32⟩) rfl rfl (by simp []) (H' := [⟨g2, 24, (prs s k).map (Value.int .u8), 32⟩, ⟨g1, 24, (List.replicate 32 0).map (Value.int .u8), 32⟩]) rfl ?_
          refine TL.gets (Wants.none rfl) rfl (Gets.assign rfl rfl) ?_
          refine TL.nil ?_
          refine TE.then ?_
          refine TC.ret ?_
          refine TE.thenR ?_
          refine TE.blockR ?_
          refine TE.thenR ?_
          refine TE.thenR ?_
          refine TE.blockR ?_
          refine TE.thenR ?_
          exact TE.retCT rfl agg24 size24 rfl rfl (vs := (List.replicate 32 0).map (Value.int .u8)) (by simp []) (Row.all (i := 1) (ent := ⟨g1, 24, (List.replicate 32 0).map (Value.int .u8), 32⟩) rfl rfl rfl) (fun w hs => ⟨rfl, ((hs.drop (by assumption)).drop (by assumption))⟩)
        · refine TL.gets (Wants.yes rfl rfl rfl) rfl (Gets.isFalse (Gets.lss rfl rfl rfl) hl) ?_
          refine TL.gets (Wants.none rfl) rfl (Gets.pickF rfl rfl rfl) ?_
          refine TL.nil ?_
          refine TE.then ?_
          refine TC.sub (Sub.cons (i := 0) rfl (Sub.cons (i := 2) rfl (Sub.cons (i := 4) rfl (Sub.cons (i := 5) rfl (Sub.cons (i := 6) rfl (Sub.cons (i := 7) rfl (Sub.cons (i := 12) rfl (Sub.cons (i := 31) rfl (Sub.nil))))))))) ?_
          refine TC.no rfl ?_
          refine TC.skip ?_
          refine TE.then ?_
          refine TC.regionL ?_
          refine TL.gets (Wants.none rfl) rfl (Gets.move rfl rfl) ?_
          refine TL.gets (Wants.none rfl) rfl (Gets.move rfl rfl) ?_
          refine TL.gets (Wants.none rfl) rfl (Gets.shl rfl rfl rfl (by omega) (r := (shlI .i64 (hexV (chrI s (2 * k))) 4)) rfl) ?_
          refine TL.gets (Wants.none rfl) rfl (Gets.move rfl rfl) ?_
          refine TL.gets (Wants.none rfl) rfl (Gets.or rfl rfl rfl (r := (orI .i64 (shlI .i64 (hexV (chrI s (2 * k))) 4) (hexV (chrI s (2 * k + 1))))) rfl) ?_
          refine TL.gets (Wants.none rfl) rfl (Gets.conv rfl Tryd.underlying3 Tryd.underlying5 rfl (r := (IntKind.u8.wrap (orI .i64 (shlI .i64 (hexV (chrI s (2 * k))) 4) (hexV (chrI s (2 * k + 1)))))) rfl) ?_
          refine TL.gets (Wants.none rfl) rfl (Gets.idxArray rfl Tryd.underlying24 size5 rfl rfl (i := k) (by omega) (by omega) (off' := k) (by omega)) ?_
          refine TL.store1 (Wants.none rfl) rfl rfl size5 rfl rfl rfl (i := 0) rfl rfl (by simp [(prs_len s k)] <;> omega) (cs' := ((prs s k).set k (IntKind.u8.wrap (orI .i64 (shlI .i64 (hexV (chrI s (2 * k))) 4) (hexV (chrI s (2 * k + 1)))))).map (Value.int .u8)) (ints_set) (H' := [⟨g2, 24, ((prs s k).set k (IntKind.u8.wrap (orI .i64 (shlI .i64 (hexV (chrI s (2 * k))) 4) (hexV (chrI s (2 * k + 1)))))).map (Value.int .u8), 32⟩, ⟨g1, 24, (List.replicate 32 0).map (Value.int .u8), 32⟩]) rfl ?_
          refine TL.nil ?_
          refine TE.blockN ?_
          refine TE.then ?_
          refine TC.sub (Sub.cons (i := 0) rfl (Sub.cons (i := 2) rfl (Sub.cons (i := 4) rfl (Sub.cons (i := 12) rfl (Sub.nil))))) ?_
          refine TC.regionL ?_
          refine TL.gets (Wants.none rfl) rfl (Gets.add rfl rfl rfl (r := ((k : Int) + 1)) (w64 (by omega) (by omega))) ?_
          refine TL.gets (Wants.none rfl) rfl (Gets.move rfl rfl) ?_
          refine TL.nil ?_
          exact TE.back (k + 1) (by omega) ⟨by omega, good_step hC0.2 (by omega) (by omega)⟩ (Sub.cons (i := 0) rfl (Sub.cons (i := 2) rfl (Sub.cons (i := 4) rfl (Sub.int (i := 12) rfl (by first | omega | rfl) (Sub.nil))))) (fun w h => h)
    · exfalso; obtain rfl : k = 32 := (by omega); exact hr ⟨by omega, hC0.2⟩
end Go.Proofs.YtdcphpmkhekghaaDoor
