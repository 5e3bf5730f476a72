/-
  DeltaBreaks: the frame.
-/
import Derived.Test.YtkgamkjdkapchaaBreaks5Pe
import Derived.SizedLaws
import Derived.Test.YtkgamkjdkapchaaBreaks5Pc
/-
  Arguments opened: commands, extents, arrays of three numbers.
-/
namespace Go.Proofs.Ytkgamkjdkapchaa
set_option linter.unusedVariables false
set_option linter.unusedSimpArgs false
set_option linter.unusedVariables false
set_option maxRecDepth 100000
open Go Go.RowKit Go.ChangeShapes Go.WideShapes Go.ChangeAt Go.Joins Go.Deep
theorem cells_ext : Try.prog.cellsOf 49 = 2 := by kernel_rfl
theorem cells_cmd : Try.prog.cellsOf 40 = 5 := by kernel_rfl
theorem bytes_u8 : Try.prog.bytesOf 5 = 1 := by kernel_rfl
theorem open_ext {H : Type} {enc : TypeId × Value → H} {W : World} {base : Nat} {v : Value} {d : DataW H} {ps : List MemPlace} (hv : Value.okWide Try.prog W .any base 49 v)
    (h : DataW.Trod enc Try.prog W 0 (fun _ => true) true 49 v d ps) :
    ∃ o l : Int, v = .agg #[.int .i64 o, .int .i64 l] ∧ (-9223372036854775808 ≤ o ∧ o ≤ 9223372036854775807) ∧ (-9223372036854775808 ≤ l ∧ l ≤ 9223372036854775807) := by
  obtain ⟨c0, c1, y0, y1, m, rfl, _, _, h0, h1⟩ := open_agg2 Try.underlying49 (by kernel_rfl) cells_ext hv h
  obtain ⟨a, e0, _, wa⟩ := DataW.trod_int Try.underlying3 h0
  obtain ⟨b, e1, _, wb⟩ := DataW.trod_int Try.underlying3 h1
  simp at e0 e1
  subst e0 e1
  exact ⟨a, b, rfl, wf_i64b wa, wf_i64b wb⟩
theorem array5 {α : Type} {cs : Array α} (h : cs.size = 5) : ∃ c0 c1 c2 c3 c4, cs = #[c0, c1, c2, c3, c4] := by
  obtain ⟨l⟩ := cs
  match l, h with
  | [c0, c1, c2, c3, c4], _ => exact ⟨c0, c1, c2, c3, c4, rfl⟩
/-- A slice of numbers, its reach. -/
theorem open_bytesR {H : Type} {enc : TypeId × Value → H} {P : Program} {W : World} {t e : TypeId} {fuel : Nat} {v : Value} {y : DataW H × List MemPlace} (ht : P.underlying t = some (.slice e)) (he : P.underlying e = some (.int .u8)) (hc : P.cellsOf e = 1)
    (hf : DataW.trod enc P W 0 (fun _ => true) true fuel t [v] = some y) : ∃ (A : Option Addr) (m c : Nat) (B : List Int), v = .slice A m c ∧ m ≤ c ∧ c ≤ 9223372036854775807 ∧ Src W A m .u8 B ∧ (∀ x ∈ B, 0 ≤ x ∧ x ≤ 255) ∧ (c = 0 ∨ c * P.bytesOf e ∈ y.1.weights P t) := by
  rcases open_ints ht he hc hf with ⟨hcs, _⟩ | ⟨a, len, cap, zs, hcs, _, hl, hm, hz, hx, hcell, hwf⟩
  · simp at hcs
    subst hcs
    exact ⟨none, 0, 0, [], rfl, Nat.le_refl _, by omega, ⟨rfl, .inl rfl⟩, by simp, .inl rfl⟩
  · simp at hcs
    subst hcs
    simp only [if_true] at hz
    refine ⟨some a, len, cap, zs.take len, rfl, hl, hm, ⟨by simp; omega, ?_⟩, fun x hx => wf_u8b (hwf x (List.mem_of_mem_take hx)), .inr ?_⟩
    · by_cases h0 : len = 0
      · exact .inl h0
      · right
        obtain ⟨b, off, spot⟩ := a
        have hc0 := hcell 0 (by omega)
        have hspot : spot = none := by simpa [Addr.add] using World.cell?_spot hc0
        subst hspot
        refine ⟨b, off, rfl, World.block_lt_of_cell? W _ hc0, fun j hj => ?_⟩
        have := hcell j (by omega)
        rw [addr_add] at this
        rw [this]
        simp [List.getD_eq_getElem?_getD, List.getElem?_take, hj]
    · have hlen : (lits .u8 (zs.take len) : List (DataW H)).length + (lits .u8 (zs.drop len) : List (DataW H)).length = cap := by
        simp only [lits, List.length_map, List.length_take, List.length_drop]
        omega
      rw [hx]
      simp only [DataW.weights, ht, hlen]
      exact List.mem_cons_self
theorem open_cmd {H : Type} {enc : TypeId × Value → H} {W : World} {base : Nat} {v : Value} {d : DataW H} {ps : List MemPlace} (hv : Value.okWide Try.prog W .any base 40 v)
    (h : DataW.Trod enc Try.prog W 0 (fun _ => true) true 40 v d ps) (hsz : ∀ q ∈ d.weights Try.prog 40, q ≤ reachBytes) :
    ∃ (k t f l : Int) (A : Option Addr) (m c : Nat) (B : List Int), v = .agg #[.int .i64 k, .int .i64 t, .int .i64 f, .int .i64 l, .slice A m c] ∧ (-9223372036854775808 ≤ k ∧ k ≤ 9223372036854775807) ∧ (-9223372036854775808 ≤ t ∧ t ≤ 9223372036854775807) ∧
      (-9223372036854775808 ≤ f ∧ f ≤ 9223372036854775807) ∧ (-9223372036854775808 ≤ l ∧ l ≤ 9223372036854775807) ∧ m ≤ c ∧ c ≤ 140737488355327 ∧ (∀ x ∈ B, 0 ≤ x ∧ x ≤ 255) ∧ Src W A m .u8 B := by
  obtain ⟨cs, rfl, hcz⟩ := okWide_struct Try.underlying40 hv
  obtain ⟨c0, c1, c2, c3, c4, rfl⟩ := array5 (hcz.trans cells_cmd)
  obtain ⟨fuel, hf⟩ := h
  obtain ⟨xs, n, _, hx, hl, hlen, hfs⟩ := DataW.trod_struct Try.underlying40 hf
  match xs, hlen with
  | [y0, y1, y2, y3, y4], _ =>
    have ci : Try.prog.cellsOf 3 = 1 := by kernel_rfl
    have cb : Try.prog.cellsOf 38 = 1 := by kernel_rfl
    have g0 : DataW.trod enc Try.prog W 0 (fun _ => true) true n 3 [c0] = some y0 := by simpa [Value.cells, ci, cb] using hfs 0 _ rfl
    have g1 : DataW.trod enc Try.prog W 0 (fun _ => true) true n 3 [c1] = some y1 := by simpa [Value.cells, ci, cb] using hfs 1 _ rfl
    have g2 : DataW.trod enc Try.prog W 0 (fun _ => true) true n 3 [c2] = some y2 := by simpa [Value.cells, ci, cb] using hfs 2 _ rfl
    have g3 : DataW.trod enc Try.prog W 0 (fun _ => true) true n 3 [c3] = some y3 := by simpa [Value.cells, ci, cb] using hfs 3 _ rfl
    have g4 : DataW.trod enc Try.prog W 0 (fun _ => true) true n 38 [c4] = some y4 := by simpa [Value.cells, ci, cb] using hfs 4 _ rfl
    obtain ⟨k, e0, _, wk⟩ := DataW.trod_int Try.underlying3 g0
    obtain ⟨t, e1, _, wt⟩ := DataW.trod_int Try.underlying3 g1
    obtain ⟨f, e2, _, wf⟩ := DataW.trod_int Try.underlying3 g2
    obtain ⟨l, e3, _, wl⟩ := DataW.trod_int Try.underlying3 g3
    obtain ⟨A, m, c, B, e4, hmc, hcm, hs, hB, hw⟩ := open_bytesR Try.underlying38 Try.underlying5 (by kernel_rfl) g4
    simp at e0 e1 e2 e3
    subst e0 e1 e2 e3 e4
    simp only [Prod.mk.injEq] at hx
    have hcR : c ≤ 140737488355327 := by
      rcases hw with hw | hw
      · omega
      · have := hsz (c * Try.prog.bytesOf 5) (by
          rw [hx.1]
          simp only [List.map_cons, List.map_nil, DataW.weights, Try.underlying40, DataW.weightsEach, Array.toList]
          simp only [List.mem_append]
          exact .inr (.inr (.inr (.inr (.inl hw)))))
        rw [bytes_u8] at this
        simp only [reachBytes] at this
        omega
    exact ⟨k, t, f, l, A, m, c, B, rfl, wf_i64b wk, wf_i64b wt, wf_i64b wf, wf_i64b wl, hmc, hcR, hB, hs⟩
end Go.Proofs.Ytkgamkjdkapchaa
/-
  Arguments opened: deltas.
-/
namespace Go.Proofs.Ytkgamkjdkapchaa
set_option linter.unusedVariables false
set_option linter.unusedSimpArgs false
set_option linter.unusedVariables false
set_option maxRecDepth 100000
open Go Go.RowKit Go.ChangeShapes Go.WideShapes Go.ChangeAt Go.Joins Go.Deep
theorem cells_dlt : Try.prog.cellsOf 25 = 67 := by kernel_rfl
theorem cells_dig : Try.prog.cellsOf 22 = 32 := by kernel_rfl
theorem weights_all {H : Type} {P : Program} {e : TypeId} {d : DataW H} {q : Nat} (h : q ∈ d.weights P e) : ∀ {l : List (DataW H)}, d ∈ l → q ∈ DataW.weightsAll P e l
  | c :: l, hd => by
    unfold DataW.weightsAll
    rcases List.mem_cons.1 hd with rfl | hd
    · exact List.mem_append.2 (.inl h)
    · exact List.mem_append.2 (.inr (weights_all h hd))
theorem list5 {α : Type} {l : List α} (h : l.length = 5) : ∃ c0 c1 c2 c3 c4, l = [c0, c1, c2, c3, c4] := by
  match l, h with
  | [c0, c1, c2, c3, c4], _ => exact ⟨c0, c1, c2, c3, c4, rfl⟩
/-- Cells that read as a command. -/
theorem open_cmdF {H : Type} {enc : TypeId × Value → H} {W : World} {fuel : Nat} {cs : List Value} {y : DataW H × List MemPlace} (hf : DataW.trod enc Try.prog W 0 (fun _ => true) true fuel 40 cs = some y)
    (hsz : ∀ q ∈ y.1.weights Try.prog 40, q ≤ reachBytes) : ∃ x : CV, cs = cellsC x ∧ (-9223372036854775808 ≤ x.k ∧ x.k ≤ 9223372036854775807) ∧ NumC x ∧ Src W x.A x.m .u8 x.B ∧ Bytes x.B := by
  obtain ⟨xs, n, _, hx, hl, hlen, hfs⟩ := DataW.trod_struct Try.underlying40 hf
  obtain ⟨c0, c1, c2, c3, c4, rfl⟩ := list5 (hl.trans cells_cmd)
  obtain ⟨y0, y1, y2, y3, y4, rfl⟩ := list5 (show xs.length = 5 from hlen)
  have ci : Try.prog.cellsOf 3 = 1 := by kernel_rfl
  have cb : Try.prog.cellsOf 38 = 1 := by kernel_rfl
  have g0 : DataW.trod enc Try.prog W 0 (fun _ => true) true n 3 [c0] = some y0 := by simpa [Value.cells, ci, cb] using hfs 0 _ rfl
  have g1 : DataW.trod enc Try.prog W 0 (fun _ => true) true n 3 [c1] = some y1 := by simpa [Value.cells, ci, cb] using hfs 1 _ rfl
  have g2 : DataW.trod enc Try.prog W 0 (fun _ => true) true n 3 [c2] = some y2 := by simpa [Value.cells, ci, cb] using hfs 2 _ rfl
  have g3 : DataW.trod enc Try.prog W 0 (fun _ => true) true n 3 [c3] = some y3 := by simpa [Value.cells, ci, cb] using hfs 3 _ rfl
  have g4 : DataW.trod enc Try.prog W 0 (fun _ => true) true n 38 [c4] = some y4 := by simpa [Value.cells, ci, cb] using hfs 4 _ rfl
  obtain ⟨k, e0, _, wk⟩ := DataW.trod_int Try.underlying3 g0
  obtain ⟨t, e1, _, wt⟩ := DataW.trod_int Try.underlying3 g1
  obtain ⟨f, e2, _, wf⟩ := DataW.trod_int Try.underlying3 g2
  obtain ⟨l, e3, _, wl⟩ := DataW.trod_int Try.underlying3 g3
  obtain ⟨A, m, c, B, e4, hmc, hcm, hs, hB, hw⟩ := open_bytesR Try.underlying38 Try.underlying5 (by kernel_rfl) g4
  simp at e0 e1 e2 e3
  subst e0 e1 e2 e3 e4
  have hcR : c ≤ 140737488355327 := by
    rcases hw with hw | hw
    · omega
    · have := hsz (c * Try.prog.bytesOf 5) (by
        rw [hx]
        simp only [List.map_cons, List.map_nil, DataW.weights, Try.underlying40, DataW.weightsEach, Array.toList]
        simp only [List.mem_append]
        exact .inr (.inr (.inr (.inr (.inl hw)))))
      rw [bytes_u8] at this
      simp only [reachBytes] at this
      omega
  exact ⟨⟨k, t, f, l, A, m, c, B⟩, rfl, wf_i64b wk, ⟨wf_i64b wt, wf_i64b wf, wf_i64b wl, hmc, Nat.le_trans hmc hcR, Nat.le_trans hcR (by decide)⟩, hs, hB⟩
/-- A slice of commands. -/
theorem open_cmds {H : Type} {enc : TypeId × Value → H} {W : World} {fuel : Nat} {v : Value} {y : DataW H × List MemPlace} (hf : DataW.trod enc Try.prog W 0 (fun _ => true) true fuel 23 [v] = some y)
    (hsz : ∀ q ∈ y.1.weights Try.prog 23, q ≤ reachBytes) : ∃ (A : Option Addr) (m c : Nat) (Cs : List CV), v = .slice A m c ∧ m ≤ c ∧ c ≤ 9223372036854775807 ∧ SrcC W A m Cs ∧ NumsC Cs ∧ DatC W Cs ∧ (A = none → m = 0) := by
  rcases DataW.trod_slice Try.underlying23 hf with ⟨hcs, _⟩ | ⟨a, len, cap, elems, rest, n, _, hcs, hx, hb, hl, hm, hlen, hel, _, _⟩
  · simp at hcs
    subst hcs
    exact ⟨none, 0, 0, [], rfl, Nat.le_refl _, by omega, ⟨rfl, .inl rfl⟩, fun i x h => by simp at h, fun i x h => by simp at h, fun _ => rfl⟩
  · simp at hcs
    subst hcs
    have each : ∀ i, i < len → ∃ x : CV, (∀ j u, (cellsC x)[j]? = some u → W.cell? ((a.add (i * 5)).add j) = some u) ∧ NumC x ∧ Src W x.A x.m .u8 x.B ∧ Bytes x.B := fun i hi => by
      have hei : elems[i]? = some elems[i] := List.getElem?_eq_getElem (by omega)
      have h1 := hel i hi
      rw [hei, cells_cmd] at h1
      obtain ⟨cs', hc1, hc2⟩ := Option.bind_eq_some_iff.1 h1
      obtain ⟨x, rfl, _, hnx, hsx, hbx⟩ := open_cmdF hc2 (fun q hq => hsz q (by
        rw [hx]
        simp only [DataW.weights, Try.underlying23]
        exact List.mem_cons_of_mem _ (List.mem_append.2 (.inl (weights_all hq (List.mem_map.2 ⟨_, List.getElem_mem _, rfl⟩))))))
      obtain ⟨_, _, hat⟩ := World.cells?_some hc1
      exact ⟨x, fun j u hu => by rw [hat j (by have := (List.getElem?_eq_some_iff.1 hu).1; rw [show (cellsC x).length = 5 from rfl] at this; exact this)]; exact hu, hnx, hsx, hbx⟩
    obtain ⟨Cs, hCl, hCs⟩ : ∃ Cs : List CV, Cs.length = len ∧ ∀ (i : Nat) (x : CV), Cs[i]? = some x → (∀ j u, (cellsC x)[j]? = some u → W.cell? ((a.add (i * 5)).add j) = some u) ∧ NumC x ∧ Src W x.A x.m .u8 x.B ∧ Bytes x.B := by
      have hch : ∀ i : Fin len, ∃ x : CV, (∀ j u, (cellsC x)[j]? = some u → W.cell? ((a.add (i.1 * 5)).add j) = some u) ∧ NumC x ∧ Src W x.A x.m .u8 x.B ∧ Bytes x.B := fun i => each i.1 i.2
      refine ⟨List.ofFn fun i => Classical.choose (hch i), by simp, fun i x hx => ?_⟩
      rw [List.getElem?_ofFn] at hx
      split at hx
      · cases hx
        exact Classical.choose_spec (hch ⟨i, by assumption⟩)
      · cases hx
    refine ⟨some a, len, cap, Cs, rfl, hl, by unfold maxLen at hm; omega, ⟨hCl, ?_⟩, fun i x hx => (hCs i x hx).2.1, fun i x hx => (hCs i x hx).2.2, fun h => by cases h⟩
    by_cases h0 : len = 0
    · exact .inl h0
    · right
      obtain ⟨b, off, spot⟩ := a
      have hx0 : Cs[0]? = some Cs[0] := List.getElem?_eq_getElem (by omega)
      have hc0 := (hCs 0 _ hx0).1 0 _ rfl
      have hspot : spot = none := by
        have := World.cell?_spot hc0
        simpa [Addr.add] using this
      subst hspot
      refine ⟨b, off, rfl, World.block_lt_of_cell? W _ hc0, fun i x hx j u hu => ?_⟩
      have := (hCs i x hx).1 j u hu
      rw [addr_add, addr_add] at this
      rw [show off + 5 * i + j = off + i * 5 + j by omega]; exact this
/-- An array of bytes. -/
theorem open_dig {H : Type} {enc : TypeId × Value → H} {W : World} {fuel : Nat} {cs : List Value} {y : DataW H × List MemPlace} (hf : DataW.trod enc Try.prog W 0 (fun _ => true) true fuel 22 cs = some y) : ∃ B : List Int, cs = B.map (Value.int .u8) ∧ B.length = 32 ∧ Bytes B := by
  obtain ⟨xs, n, _, hx, hl, hlen, hfs⟩ := DataW.trod_array Try.underlying22 hf
  have hl32 : cs.length = 32 := hl.trans cells_dig
  have cu : Try.prog.cellsOf 5 = 1 := by kernel_rfl
  have each : ∀ i, i < 32 → ∃ b : Int, cs[i]? = some (.int .u8 b) ∧ 0 ≤ b ∧ b ≤ 255 := fun i hi => by
    have h1 := hfs i hi
    have hxi : xs[i]? = some xs[i] := List.getElem?_eq_getElem (by omega)
    rw [cu, Nat.mul_one, hxi] at h1
    have h4 : (cs.drop i).take 1 = [cs[i]] := by
      rw [List.drop_eq_getElem_cons (by omega)]; rfl
    rw [h4] at h1
    obtain ⟨b, e1, _, wb⟩ := DataW.trod_int Try.underlying5 h1
    simp at e1
    exact ⟨b, by rw [List.getElem?_eq_getElem (by omega), e1], wf_u8b wb⟩
  have hch : ∀ i : Fin 32, ∃ b : Int, cs[i.1]? = some (.int .u8 b) ∧ 0 ≤ b ∧ b ≤ 255 := fun i => each i.1 i.2
  refine ⟨List.ofFn fun i => Classical.choose (hch i), ?_, by simp, fun b hb => ?_⟩
  · apply List.ext_getElem?
    intro i
    by_cases hi : i < 32
    · rw [(Classical.choose_spec (hch ⟨i, hi⟩)).1]
      rw [List.getElem?_map, List.getElem?_ofFn, dif_pos hi]; rfl
    · rw [List.getElem?_eq_none (by omega), List.getElem?_eq_none (by simp; omega)]
  · obtain ⟨i, rfl⟩ := List.mem_ofFn.1 hb
    exact (Classical.choose_spec (hch i)).2
theorem drop_cut {α : Type} (l : List α) (a n : Nat) : l.drop a = (l.drop a).take n ++ l.drop (a + n) := by
  rw [← List.drop_drop, List.take_append_drop]
theorem open_dlt {H : Type} {enc : TypeId × Value → H} {W : World} {base : Nat} {v : Value} {d : DataW H} {ps : List MemPlace} (hv : Value.okWide Try.prog W .any base 25 v)
    (h : DataW.Trod enc Try.prog W 0 (fun _ => true) true 25 v d ps) (hsz : ∀ q ∈ d.weights Try.prog 25, q ≤ reachBytes) :
    ∃ (o n : Int) (H1 H2 : List Int) (A : Option Addr) (m c : Nat) (Cs : List CV), v = .agg ([Value.int .i64 o, Value.int .i64 n] ++ (H1.map (Value.int .u8) ++ (H2.map (Value.int .u8) ++ [Value.slice A m c]))).toArray ∧ (-9223372036854775808 ≤ o ∧ o ≤ 9223372036854775807) ∧ (-9223372036854775808 ≤ n ∧ n ≤ 9223372036854775807) ∧
      H1.length = 32 ∧ H2.length = 32 ∧ Bytes H1 ∧ Bytes H2 ∧ m ≤ c ∧ c ≤ 9223372036854775807 ∧ SrcC W A m Cs ∧ NumsC Cs ∧ DatC W Cs ∧ (A = none → m = 0) := by
  obtain ⟨cs, rfl, hcz⟩ := okWide_struct Try.underlying25 hv
  obtain ⟨fuel, hf⟩ := h
  obtain ⟨xs, n, _, hx, hl, hlen, hfs⟩ := DataW.trod_struct Try.underlying25 hf
  obtain ⟨l⟩ := cs
  have hcells : (Value.agg ⟨l⟩).cells.toList = l := rfl
  rw [hcells] at hl hfs
  have hl67 : l.length = 67 := hl.trans cells_dlt
  obtain ⟨y0, y1, y2, y3, y4, rfl⟩ := list5 (show xs.length = 5 from hlen)
  have ci : Try.prog.cellsOf 3 = 1 := by kernel_rfl
  have cb : Try.prog.cellsOf 23 = 1 := by kernel_rfl
  have g0 : DataW.trod enc Try.prog W 0 (fun _ => true) true n 3 ((l.drop 0).take 1) = some y0 := by have t0 : DataW.trod enc Try.prog W 0 (fun _ => true) true n 3 ((l.drop 0).take (Try.prog.cellsOf 3)) = some y0 := hfs 0 _ rfl; rw [ci] at t0; exact t0
  have g1 : DataW.trod enc Try.prog W 0 (fun _ => true) true n 3 ((l.drop 1).take 1) = some y1 := by have t0 : DataW.trod enc Try.prog W 0 (fun _ => true) true n 3 ((l.drop 1).take (Try.prog.cellsOf 3)) = some y1 := hfs 1 _ rfl; rw [ci] at t0; exact t0
  have g2 : DataW.trod enc Try.prog W 0 (fun _ => true) true n 22 ((l.drop 2).take 32) = some y2 := by have t0 : DataW.trod enc Try.prog W 0 (fun _ => true) true n 22 ((l.drop 2).take (Try.prog.cellsOf 22)) = some y2 := hfs 2 _ rfl; rw [cells_dig] at t0; exact t0
  have g3 : DataW.trod enc Try.prog W 0 (fun _ => true) true n 22 ((l.drop 34).take 32) = some y3 := by have t0 : DataW.trod enc Try.prog W 0 (fun _ => true) true n 22 ((l.drop 34).take (Try.prog.cellsOf 22)) = some y3 := hfs 3 _ rfl; rw [cells_dig] at t0; exact t0
  have g4 : DataW.trod enc Try.prog W 0 (fun _ => true) true n 23 ((l.drop 66).take 1) = some y4 := by have t0 : DataW.trod enc Try.prog W 0 (fun _ => true) true n 23 ((l.drop 66).take (Try.prog.cellsOf 23)) = some y4 := hfs 4 _ rfl; rw [cb] at t0; exact t0
  obtain ⟨o, e0, _, wo⟩ := DataW.trod_int Try.underlying3 g0
  obtain ⟨nn, e1, _, wn⟩ := DataW.trod_int Try.underlying3 g1
  obtain ⟨H1, e2, hH1, b1⟩ := open_dig g2
  obtain ⟨H2, e3, hH2, b2⟩ := open_dig g3
  obtain ⟨u, e4⟩ : ∃ u, (l.drop 66).take 1 = [u] := List.length_eq_one_iff.1 (by rw [List.length_take, List.length_drop, hl67]; rfl)
  rw [e4] at g4
  simp only [Prod.mk.injEq] at hx
  obtain ⟨A, m, c, Cs, rfl, hmc, hcm, hC, hN, hD, hA⟩ := open_cmds g4 (fun q hq => hsz q (by
    rw [hx.1]
    simp only [List.map_cons, List.map_nil, DataW.weights, Try.underlying25, DataW.weightsEach, Array.toList]
    simp only [List.mem_append]
    exact .inr (.inr (.inr (.inr (.inl hq))))))
  refine ⟨o, nn, H1, H2, A, m, c, Cs, ?_, wf_i64b wo, wf_i64b wn, hH1, hH2, b1, b2, hmc, hcm, hC, hN, hD, hA⟩
  congr 1
  have h5 : l = [Value.int .i64 o, Value.int .i64 nn] ++ (H1.map (Value.int .u8) ++ (H2.map (Value.int .u8) ++ [.slice A m c])) := by
    have k0 := drop_cut l 0 1
    have k1 := drop_cut l 1 1
    have k2 := drop_cut l 2 32
    have k3 := drop_cut l 34 32
    have k4 := drop_cut l 66 1
    rw [e0] at k0
    rw [e1] at k1
    rw [e2] at k2
    rw [e3] at k3
    rw [e4, List.drop_of_length_le (i := 66 + 1) (by omega), List.append_nil] at k4
    have k0' : l = [Value.int .i64 o] ++ l.drop 1 := by simpa using k0
    rw [k0', k1, k2, k3, k4]
    simp
  rw [h5]
end Go.Proofs.Ytkgamkjdkapchaa
namespace Go.Proofs.Ytkgamkjdkapchaa
set_option linter.unusedVariables false
open Go Go.RowKit Go.ChangeShapes Go.WideShapes Go.ChangeAt Go.Joins Go.Deep
set_option maxRecDepth 100000 in
theorem deltaBreaks_lifted (os : Os) (started : os.Started) (H : Type) (enc : TypeId × Value → H) :
    ReturnsInHanded {} Try.checked os 7 .any (Rows.deltaBreaksSpec.pre6 enc Try.prog Try.f7 Rows.deltaBreaksRow.domain false) (Rows.deltaBreaksSpec.post enc Try.prog Try.f7 false true false false) := by
  refine returnsInHanded_of_change_sized (C := Try.checked) own_knob started (by kernel_rfl) Try.func7
    (ChangeSpec.witness6 (enc := enc) (C := Try.checked) false ⟨#[], #[.agg #[.int .i64 0, .int .i64 0, .int .u8 0, .int .u8 0, .int .u8 0, .int .u8 0, .int .u8 0, .int .u8 0, .int .u8 0, .int .u8 0, .int .u8 0, .int .u8 0, .int .u8 0, .int .u8 0, .int .u8 0, .int .u8 0, .int .u8 0, .int .u8 0, .int .u8 0, .int .u8 0, .int .u8 0, .int .u8 0, .int .u8 0, .int .u8 0, .int .u8 0, .int .u8 0, .int .u8 0, .int .u8 0, .int .u8 0, .int .u8 0, .int .u8 0, .int .u8 0, .int .u8 0, .int .u8 0, .int .u8 0, .int .u8 0, .int .u8 0, .int .u8 0, .int .u8 0, .int .u8 0, .int .u8 0, .int .u8 0, .int .u8 0, .int .u8 0, .int .u8 0, .int .u8 0, .int .u8 0, .int .u8 0, .int .u8 0, .int .u8 0, .int .u8 0, .int .u8 0, .int .u8 0, .int .u8 0, .int .u8 0, .int .u8 0, .int .u8 0, .int .u8 0, .int .u8 0, .int .u8 0, .int .u8 0, .int .u8 0, .int .u8 0, .int .u8 0, .int .u8 0, .int .u8 0, .slice none 0 0], .int .u8 0], []⟩ 8 (by kernel_rfl) (by kernel_rfl) (by kernel_rfl) (by kernel_rfl)) ?_
  intro W base args ds gs before hval0 hW hcnd hsz0 _
  have hval : ∀ (j : Nat) t v, Try.f7.params[j]? = some t → args[j]? = some v → Value.okWide Try.prog W .any base t v := hval0
  have hW' := hW
  obtain ⟨p, q, hA0, hV, rfl, hfz, hnd⟩ := hW
  have hA : DataW.TrodAll enc Try.prog W 0 (fun _ => true) true Try.f7.params.toList args.toList ds p := hA0
  have hsz : (DataW.weightsEach Try.prog (Try.f7.params.toList ++ Rows.deltaBreaksSpec.plain.varTypes Try.prog) (ds ++ gs)).all (· ≤ reachBytes) = true := hsz0
  rw [Try.params7] at hA hval hsz
  obtain ⟨v0, vs0, d0, ds0, p0, q0, hargs, rfl, rfl, h0, r0⟩ := trodAll_cons hA
  obtain ⟨v1, vs1, d1, ds1, p1, q1, rfl, rfl, rfl, h1, r1⟩ := trodAll_cons r0
  obtain ⟨rfl, rfl, rfl⟩ := trodAll_nil r1
  obtain rfl : args = #[v0, v1] := by cases args; simp_all
  obtain ⟨rfl, rfl⟩ := trodVars_none hV
  have k0 := h0
  have lt0 : ∀ x ∈ p0, x.block < W.heap.size := by obtain ⟨m, hm⟩ := k0; exact DataW.trod_lt m _ _ _ hm
  have k1 := h1
  have lt1 : ∀ x ∈ p1, x.block < W.heap.size := by obtain ⟨m, hm⟩ := k1; exact DataW.trod_lt m _ _ _ hm
  obtain ⟨od, nd, H1d, H2d, Ad, md, cd, Cd, hv0, bo0, bn0, hH10, hH20, hB10, hB20, hmc0, hcm0, hC0, hN0, hD0, hA0⟩ := open_dlt (hval 0 25 v0 rfl rfl) h0 (fun q hq => of_decide_eq_true (List.all_eq_true.1 hsz q (DataW.weights_mem_each (j := 0) (t := 25) (d := d0) rfl rfl q hq)))
  subst hv0
  obtain ⟨i, hv1, hd1, hp1, wf1⟩ := open_int Try.underlying5 (hval 1 5 v1 rfl rfl) h1
  have bd1 := wf_u8b wf1
  subst hv1
  clear hA0 hval0 hsz0
  refine (deltaBreaks_walk od nd H1d H2d hH10 hH20 Ad md cd Cd i W bo0 bn0 hmc0 hcm0 hN0 hC0 hD0 hA0 hB10 hB20 bd1).mono fun e W' ⟨he, hst⟩ => ?_
  have bel := hst.below
  subst he
  exact ⟨_, rfl, _, _, _, [], _, [], hW', trodAll_mk1 (shut_bool Try.underlying4 _), (trodAll_cons_mk (Below.trod laid_out (by kernel_rfl) (of_decide_eq_true (by kernel_rfl)) k0 bel lt0) (trodAll_cons_mk (Below.trod laid_out (by kernel_rfl) (of_decide_eq_true (by kernel_rfl)) k1 bel lt1) trodAll_mk0)), rfl, bel.frame _, fun h => by cases h⟩

/-- The statement. -/
theorem deltaBreaks_holds : Rows.DeltaBreaksSaid :=
  OpenClaim.holds_of_wide 7 Try.f7 rfl rfl rfl rfl rfl rfl rfl ⟨rfl, rfl, rfl, rfl, rfl⟩ rfl rfl rfl rfl rfl (by kernel_rfl) Try.func7 (by kernel_rfl)
    (of_decide_eq_true (by kernel_rfl)) (by unfold Func.isWrapper; first | (rw [if_pos (by decide +kernel)]; kernel_rfl) | (rw [if_neg (by decide +kernel)]; exact ⟨rfl, rfl⟩))
    (fun os started H enc _ => deltaBreaks_lifted os started H enc)
end Go.Proofs.Ytkgamkjdkapchaa
