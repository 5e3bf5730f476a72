/-
  Arguments opened: fields, calls of a reader, pairs of bytes.
-/
import Derived.Test.YtdllgfkcakhoeaaFrG
import Derived.Test.YtdllgfkcakhoeaaWir
namespace Go.Proofs.Ytdllgfkcakhoeaa
set_option linter.unusedVariables false
set_option linter.unusedSimpArgs false
set_option linter.unusedVariables false
set_option maxRecDepth 100000
open Go Go.RowKit Go.ChangeShapes Go.WideShapes Go.ChangeAt Go.Joins Go.Deep
theorem wf_u64b {n : Int} (h : (Lit.int .u64 n).wf = true) : 0 ≤ n ∧ n ≤ 18446744073709551615 := by
  simp [Lit.wf, IntKind.min, IntKind.max, IntKind.signed, IntKind.bits] at h
  exact h
theorem list2 {α : Type} {l : List α} (h : l.length = 2) : ∃ c0 c1, l = [c0, c1] := by
  match l, h with
  | [c0, c1], _ => exact ⟨c0, c1, rfl⟩
theorem list3 {α : Type} {l : List α} (h : l.length = 3) : ∃ c0 c1 c2, l = [c0, c1, c2] := by
  match l, h with
  | [c0, c1, c2], _ => exact ⟨c0, c1, c2, rfl⟩
theorem cells_fld : Try.prog.cellsOf 54 = 2 := by kernel_rfl
theorem cells_op : Try.prog.cellsOf 49 = 3 := by kernel_rfl
theorem open_fldF {H : Type} {enc : TypeId × Value → H} {W : World} (fuel : Nat) (cs : List Value) (y : DataW H × List MemPlace) (hf : DataW.trod enc Try.prog W 0 (fun _ => true) true fuel 54 cs = some y)
    (hsz : ∀ q ∈ y.1.weights Try.prog 54, q ≤ reachBytes) : ∃ x : FV, cs = cellsF x ∧ NumF x := by
  obtain ⟨xs, n, _, hx, hl, hlen, hfs⟩ := DataW.trod_struct Try.underlying54 hf
  obtain ⟨c0, c1, rfl⟩ := list2 (hl.trans cells_fld)
  obtain ⟨y0, y1, rfl⟩ := list2 (show xs.length = 2 from hlen)
  have cu : Try.prog.cellsOf 34 = 1 := by kernel_rfl
  have ci : Try.prog.cellsOf 3 = 1 := by kernel_rfl
  have g0 : DataW.trod enc Try.prog W 0 (fun _ => true) true n 34 [c0] = some y0 := by simpa [Value.cells, cu, ci] using hfs 0 _ rfl
  have g1 : DataW.trod enc Try.prog W 0 (fun _ => true) true n 3 [c1] = some y1 := by simpa [Value.cells, cu, ci] using hfs 1 _ rfl
  obtain ⟨k, e0, _, wk⟩ := DataW.trod_int Try.underlying34 g0
  obtain ⟨t, e1, _, wt⟩ := DataW.trod_int Try.underlying3 g1
  simp at e0 e1
  subst e0 e1
  exact ⟨⟨k, t⟩, rfl, wf_u64b wk, wf_i64b wt⟩
theorem open_flds {H : Type} {enc : TypeId × Value → H} {W : World} {base : Nat} {v : Value} {d : DataW H} {ps : List MemPlace} (hv : Value.okWide Try.prog W .any base 23 v)
    (h : DataW.Trod enc Try.prog W 0 (fun _ => true) true 23 v d ps) (hsz : ∀ q ∈ d.weights Try.prog 23, q ≤ reachBytes) : ∃ (A : Option Addr) (m c : Nat) (Fs : List FV), v = .slice A m c ∧ m ≤ c ∧ c ≤ 9223372036854775807 ∧ SrcF W A m Fs ∧ NumsF Fs := by
  obtain ⟨a0, len0, cap0, rfl⟩ := okWide_slice Try.underlying23 hv
  obtain ⟨fuel, hf⟩ := h
  obtain ⟨A, m, c, Fs, hv, h1, h2, h3, h4, _⟩ := open_structs (s := 2) cellsF (fun _ => rfl) (by omega) NumF Try.underlying23 cells_fld open_fldF (by simpa [Value.cells] using hf) hsz
  exact ⟨A, m, c, Fs, hv, h1, h2, h3, h4⟩
/-- Calls of a reader, as they lie. -/
structure OV where
  k : Int
  n : Int
  A : Option Addr
  m : Nat
  c : Nat
  B : List Int
def cellsO (x : OV) : List Value := [.int .i64 x.k, .int .i64 x.n, .slice x.A x.m x.c]
def OkO (W : World) (x : OV) : Prop := (-9223372036854775808 ≤ x.k ∧ x.k ≤ 9223372036854775807) ∧ (-9223372036854775808 ≤ x.n ∧ x.n ≤ 9223372036854775807) ∧ x.m ≤ x.c ∧ x.c ≤ 9223372036854775807 ∧ Src W x.A x.m .u8 x.B ∧ ∀ b ∈ x.B, 0 ≤ b ∧ b ≤ 255
def SrcO (W : World) (A : Option Addr) (m : Nat) (Os : List OV) : Prop := Os.length = m ∧ (m = 0 ∨ ∃ b off, A = some ⟨b, off, none⟩ ∧ b < W.heap.size ∧ ∀ (i : Nat) (x : OV), Os[i]? = some x → ∀ j u, (cellsO x)[j]? = some u → W.cell? ⟨b, off + 3 * i + j, none⟩ = some u)
/-- A call that 'few' allows. -/
def goodO (x : OV) : Prop := x.m ≤ 100 ∧ ¬ (3 ≤ x.k ∧ x.n = 0) ∧ x.n ≤ 1152921504606846976 ∧ -1152921504606846976 ≤ x.n
def fewO (m : Nat) (Os : List OV) : Prop := m ≤ 60 ∧ ∀ (j : Nat) (x : OV), Os[j]? = some x → goodO x
noncomputable instance (m : Nat) (Os : List OV) : Decidable (fewO m Os) := Classical.propDecidable _
theorem OkO.at_ {w0 w : World} {H : List Ent} {x : OV} (h : OkO w0 x) (hs : St w0 H w) (hH : ∀ b, b < w0.heap.size → ∀ e ∈ H, e.g ≠ b) : OkO w x := ⟨h.1, h.2.1, h.2.2.1, h.2.2.2.1, h.2.2.2.2.1.at_ hs hH, h.2.2.2.2.2⟩
theorem fresh_cons {w : World} {e : Ent} {X : List Ent} (h : w.heap.size ≤ e.g) (hx : Fresh w X) : Fresh w (e :: X) := Fresh.cons h hx
theorem SrcO.at_ {w0 w : World} {H : List Ent} {A : Option Addr} {m : Nat} {Os : List OV} (h : SrcO w0 A m Os) (hs : St w0 H w) (hH : ∀ b, b < w0.heap.size → ∀ e ∈ H, e.g ≠ b) : SrcO w A m Os := by
  refine ⟨h.1, h.2.imp id ?_⟩
  rintro ⟨b, off, rfl, hb, hr⟩
  exact ⟨b, off, rfl, Nat.lt_of_lt_of_le hb hs.size, fun i x hx j u hu => (hs.old_cell (ad := ⟨b, off + 3 * i + j, none⟩) hb (hH b hb)).trans (hr i x hx j u hu)⟩
theorem SrcO.some_ {w : World} {A : Option Addr} {m i : Nat} {Os : List OV} (h : SrcO w A m Os) (hi : i < m) : ∃ b off, A = some ⟨b, off, none⟩ ∧ b < w.heap.size ∧ ∀ (i : Nat) (x : OV), Os[i]? = some x → ∀ j u, (cellsO x)[j]? = some u → w.cell? ⟨b, off + 3 * i + j, none⟩ = some u := h.2.resolve_left (by omega)
theorem SrcO.get {w : World} {A : Option Addr} {m i : Nat} {Os : List OV} (h : SrcO w A m Os) (hi : i < m) : ∃ x, Os[i]? = some x := ⟨_, List.getElem?_eq_getElem (by rw [h.1]; exact hi)⟩
theorem open_opF {H : Type} {enc : TypeId × Value → H} {W : World} (fuel : Nat) (cs : List Value) (y : DataW H × List MemPlace) (hf : DataW.trod enc Try.prog W 0 (fun _ => true) true fuel 49 cs = some y)
    (hsz : ∀ q ∈ y.1.weights Try.prog 49, q ≤ reachBytes) : ∃ x : OV, cs = cellsO x ∧ OkO W x := by
  obtain ⟨xs, n, _, hx, hl, hlen, hfs⟩ := DataW.trod_struct Try.underlying49 hf
  obtain ⟨c0, c1, c2, rfl⟩ := list3 (hl.trans cells_op)
  obtain ⟨y0, y1, y2, rfl⟩ := list3 (show xs.length = 3 from hlen)
  have ci : Try.prog.cellsOf 3 = 1 := by kernel_rfl
  have cb : Try.prog.cellsOf 22 = 1 := by kernel_rfl
  have g0 : DataW.trod enc Try.prog W 0 (fun _ => true) true n 3 [c0] = some y0 := by simpa [Value.cells, ci, cb] using hfs 0 _ rfl
  have g1 : DataW.trod enc Try.prog W 0 (fun _ => true) true n 3 [c1] = some y1 := by simpa [Value.cells, ci, cb] using hfs 1 _ rfl
  have g2 : DataW.trod enc Try.prog W 0 (fun _ => true) true n 22 [c2] = some y2 := by simpa [Value.cells, ci, cb] using hfs 2 _ rfl
  obtain ⟨k, e0, _, wk⟩ := DataW.trod_int Try.underlying3 g0
  obtain ⟨t, e1, _, wt⟩ := DataW.trod_int Try.underlying3 g1
  obtain ⟨A, m, c, B, e2, hmc, hcm, hs, hB, hw⟩ := open_bytesR Try.underlying22 Try.underlying5 (by kernel_rfl) g2
  simp at e0 e1
  subst e0 e1 e2
  exact ⟨⟨k, t, A, m, c, B⟩, rfl, wf_i64b wk, wf_i64b wt, hmc, hcm, hs, hB⟩
theorem open_ops {H : Type} {enc : TypeId × Value → H} {W : World} {base : Nat} {v : Value} {d : DataW H} {ps : List MemPlace} (hv : Value.okWide Try.prog W .any base 44 v)
    (h : DataW.Trod enc Try.prog W 0 (fun _ => true) true 44 v d ps) (hsz : ∀ q ∈ d.weights Try.prog 44, q ≤ reachBytes) : ∃ (A : Option Addr) (m c : Nat) (Os : List OV), v = .slice A m c ∧ m ≤ c ∧ c ≤ 9223372036854775807 ∧ SrcO W A m Os ∧ ∀ (i : Nat) (x : OV), Os[i]? = some x → OkO W x := by
  obtain ⟨a0, len0, cap0, rfl⟩ := okWide_slice Try.underlying44 hv
  obtain ⟨fuel, hf⟩ := h
  obtain ⟨A, m, c, Os, hv, h1, h2, h3, h4, _⟩ := open_structs (s := 3) cellsO (fun _ => rfl) (by omega) (OkO W) Try.underlying44 cells_op open_opF (by simpa [Value.cells] using hf) hsz
  exact ⟨A, m, c, Os, hv, h1, h2, h3, h4⟩
theorem cells_a2 : Try.prog.cellsOf 45 = 2 := by kernel_rfl
theorem open_a2 {H : Type} {enc : TypeId × Value → H} {W : World} {base : Nat} {v : Value} {d : DataW H} {ps : List MemPlace} (hv : Value.okWide Try.prog W .any base 45 v)
    (h : DataW.Trod enc Try.prog W 0 (fun _ => true) true 45 v d ps) :
    ∃ x0 x1 : Int, v = .agg #[.int .u8 x0, .int .u8 x1] ∧ (0 ≤ x0 ∧ x0 ≤ 255) ∧ (0 ≤ x1 ∧ x1 ≤ 255) := by
  obtain ⟨cs, rfl, hcz⟩ : ∃ cs, v = .agg cs ∧ cs.size = Try.prog.cellsOf 45 := by
    simp only [Value.okWide, Try.underlying45] at hv
    obtain ⟨cs, h1, h2, _⟩ := hv
    exact ⟨cs, h1, h2⟩
  obtain ⟨cs⟩ := cs
  obtain ⟨c0, c1, rfl⟩ := list2 (show cs.length = 2 from hcz.trans cells_a2)
  obtain ⟨fuel, hf⟩ := h
  obtain ⟨xs, n, _, hx, hl, hlen, hfs⟩ := DataW.trod_array Try.underlying45 hf
  obtain ⟨y0, y1, rfl⟩ := list2 (show xs.length = 2 from hlen)
  have cu : Try.prog.cellsOf 5 = 1 := by kernel_rfl
  have g0 : DataW.trod enc Try.prog W 0 (fun _ => true) true n 5 [c0] = some y0 := by simpa [Value.cells, cu] using hfs 0 (by omega)
  have g1 : DataW.trod enc Try.prog W 0 (fun _ => true) true n 5 [c1] = some y1 := by simpa [Value.cells, cu] using hfs 1 (by omega)
  obtain ⟨k, e0, _, wk⟩ := DataW.trod_int Try.underlying5 g0
  obtain ⟨t, e1, _, wt⟩ := DataW.trod_int Try.underlying5 g1
  simp at e0 e1
  subst e0 e1
  exact ⟨k, t, rfl, wf_u8b wk, wf_u8b wt⟩
end Go.Proofs.Ytdllgfkcakhoeaa
