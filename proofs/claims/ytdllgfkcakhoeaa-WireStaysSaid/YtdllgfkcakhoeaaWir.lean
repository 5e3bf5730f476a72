/-
  Fields: numbers with sizes; what they are written as.
-/
import Derived.Test.YtdllgfkcakhoeaaOwnT
import Derived.Test.YtdllgfkcakhoeaaMem2
namespace Go.Proofs.Ytdllgfkcakhoeaa
set_option linter.unusedVariables false
set_option linter.unusedSimpArgs false
set_option linter.unusedVariables false
open Go Go.RowKit
/-- A field, as it lies. -/
structure FV where
  x : Int
  n : Int
def NumF (f : FV) : Prop := (0 ≤ f.x ∧ f.x ≤ 18446744073709551615) ∧ (-9223372036854775808 ≤ f.n ∧ f.n ≤ 9223372036854775807)
def NumsF (Fs : List FV) : Prop := ∀ (i : Nat) (f : FV), Fs[i]? = some f → NumF f
def cellsF (f : FV) : List Value := [.int .u64 f.x, .int .i64 f.n]
def RowsF (w : World) (b off : Nat) (Fs : List FV) : Prop := ∀ (i : Nat) (x : FV), Fs[i]? = some x → ∀ j u, (cellsF x)[j]? = some u → w.cell? ⟨b, off + 2 * i + j, none⟩ = some u
def SrcF (w : World) (A : Option Addr) (m : Nat) (Fs : List FV) : Prop := Fs.length = m ∧ (m = 0 ∨ ∃ b off, A = some ⟨b, off, none⟩ ∧ b < w.heap.size ∧ RowsF w b off Fs)
theorem SrcF.at_ {w0 w : World} {H : List Ent} {A : Option Addr} {m : Nat} {Fs : List FV} (h : SrcF w0 A m Fs) (hs : St w0 H w) (hH : ∀ b, b < w0.heap.size → ∀ e ∈ H, e.g ≠ b) : SrcF w A m Fs := by
  refine ⟨h.1, ?_⟩
  rcases h.2 with h | ⟨b, off, hA, hb, hr⟩
  · exact .inl h
  · refine .inr ⟨b, off, hA, Nat.lt_of_lt_of_le hb hs.size, fun i x hx j u hu => ?_⟩
    rw [hs.old_cell (ad := ⟨b, _, none⟩) hb (hH b hb)]
    exact hr i x hx j u hu
theorem SrcF.some_ {w : World} {A : Option Addr} {m i : Nat} {Fs : List FV} (h : SrcF w A m Fs) (hi : i < m) : ∃ b off, A = some ⟨b, off, none⟩ ∧ b < w.heap.size ∧ RowsF w b off Fs := h.2.resolve_left (by omega)
theorem SrcF.get {w : World} {A : Option Addr} {m i : Nat} {Fs : List FV} (h : SrcF w A m Fs) (hi : i < m) : ∃ x, Fs[i]? = some x := ⟨_, List.getElem?_eq_getElem (by rw [h.1]; exact hi)⟩
/-! ### Fields in a slice of the call's own -/
def flatF (Fs : List FV) : List Value := Fs.flatMap cellsF
theorem cellsF_len (x : FV) : (cellsF x).length = 2 := rfl
theorem flatF_len (Fs : List FV) : (flatF Fs).length = Fs.length * 2 := by
  induction Fs with
  | nil => rfl
  | cons x l ih => unfold flatF at *; rw [List.flatMap_cons, List.length_append, ih, cellsF_len, List.length_cons]; omega
theorem flatF_app (Fs Es : List FV) : flatF (Fs ++ Es) = flatF Fs ++ flatF Es := by unfold flatF; rw [List.flatMap_append]
theorem flatF_one (x : FV) : flatF [x] = cellsF x := by unfold flatF; simp
theorem flatF_get : ∀ {Fs : List FV} {i : Nat} {x : FV} {j : Nat} {u : Value}, Fs[i]? = some x → (cellsF x)[j]? = some u → (flatF Fs)[2 * i + j]? = some u
  | [], i, x, j, u, h, _ => by simp at h
  | y :: l, 0, x, j, u, h, hu => by
    simp at h; subst h
    have hj : j < 2 := by have := (List.getElem?_eq_some_iff.1 hu).1; rw [cellsF_len] at this; exact this
    show (flatF ([y] ++ l))[2 * 0 + j]? = some u
    rw [flatF_app, flatF_one, List.getElem?_append_left (by rw [cellsF_len]; omega), Nat.mul_zero, Nat.zero_add]; exact hu
  | y :: l, i + 1, x, j, u, h, hu => by
    simp at h
    show (flatF ([y] ++ l))[2 * (i + 1) + j]? = some u
    rw [flatF_app, flatF_one, List.getElem?_append_right (by rw [cellsF_len]; omega), cellsF_len]
    have := flatF_get (Fs := l) h hu
    rw [← this]; congr 1; omega
theorem flatF_one' (Fs : List FV) : ∀ u ∈ flatF Fs, u.oneCell' = true := fun u hu => by
  unfold flatF at hu
  obtain ⟨x, _, hx⟩ := List.mem_flatMap.1 hu
  simp only [cellsF, List.mem_cons, List.not_mem_nil, or_false] at hx
  rcases hx with rfl | rfl <;> rfl
/-- Fields of a part of a slice. -/
theorem SrcF.cut {w : World} {b off m i l : Nat} {Fs : List FV} (h : RowsF w b off Fs) (hm : Fs.length = m) (hl : i + l ≤ m) : RowsF w b (off + 2 * i) ((Fs.drop i).take l) := fun q x hx j u hu => by
  rw [List.getElem?_take] at hx
  split at hx
  · rw [List.getElem?_drop] at hx
    have := h (i + q) x hx j u hu
    rw [show off + 2 * i + 2 * q + j = off + 2 * (i + q) + j by omega]; exact this
  · cases hx
theorem RowsF.srcV {w : World} {b off m : Nat} {Fs : List FV} (h : RowsF w b off Fs) : SrcV w (some ⟨b, off, none⟩) m (flatF Fs) := by
  refine .inr ⟨_, rfl, fun j u hu => ?_⟩
  rw [addr_add]
  have hj := (List.getElem?_eq_some_iff.1 hu).1
  rw [flatF_len] at hj
  have hi : j / 2 < Fs.length := by omega
  have hx : Fs[j / 2]? = some Fs[j / 2] := List.getElem?_eq_getElem hi
  have hr : j % 2 < 2 := Nat.mod_lt _ (by omega)
  have hu2 : (cellsF Fs[j / 2])[j % 2]? = some ((cellsF Fs[j / 2])[j % 2]'(by rw [cellsF_len]; exact hr)) := List.getElem?_eq_getElem _
  have h2 := flatF_get hx hu2
  rw [show 2 * (j / 2) + j % 2 = j by omega, hu] at h2
  cases h2
  have := h _ _ hx _ _ hu2
  rw [show off + j = off + 2 * (j / 2) + j % 2 by omega]
  exact this
theorem SrcF.srcV {w : World} {A : Option Addr} {m : Nat} {Fs : List FV} (h : SrcF w A m Fs) (hA : A = none ∨ ∃ a, A = some a) (h0 : m = 0 → ∀ a, A = some a → True) : SrcV w A m (flatF Fs) := by
  rcases h.2 with rfl | ⟨b, off, rfl, hb, hr⟩
  · have : Fs = [] := List.length_eq_zero_iff.1 h.1
    subst this
    rcases hA with rfl | ⟨a, rfl⟩
    · exact .inl ⟨rfl, rfl⟩
    · exact .inr ⟨a, rfl, fun j u hu => by simp [flatF] at hu⟩
  · exact hr.srcV
theorem OwnS.srcF {N m c : Nat} {A : Option Addr} {t : TypeId} {Fs : List FV} {He : List Ent} {w : World} (h : OwnS N t 2 (.slice A m c) m (flatF Fs) He) (hs : ∀ e ∈ He, e.lies w) : SrcF w A m Fs := by
  have hl : Fs.length = m := by have := h.1; rw [flatF_len] at this; omega
  refine ⟨hl, ?_⟩
  rcases h.2 with ⟨h1, h2, rfl⟩ | ⟨g, cap, h1, rfl, hN, hc, hm⟩
  · exact .inl h2
  · cases h1
    have hlie := hs _ (List.mem_singleton.2 rfl)
    refine .inr ⟨g, 0, rfl, hlie.lt, fun i x hx j u hu => ?_⟩
    rw [show 0 + 2 * i + j = 2 * i + j by omega]
    exact hlie.cell (flatF_get hx hu)

/-! ### Blocks and results -/
theorem st_next {w0 w : World} {A B C D : List Ent} (h : St w0 (A ++ ((B ++ C) ++ D)) w) (hA : Fresh w0 A) (hB : Fresh w0 B) : St w0 ([] ++ (D ++ C)) w := by
  have hp : (A ++ ((B ++ C) ++ D)).Perm (([] ++ (D ++ C)) ++ (A ++ B)) := by
    rw [List.nil_append, List.append_assoc, ← List.append_assoc]
    exact List.perm_append_comm.trans (List.Perm.append_right _ List.perm_append_comm)
  exact St.left (h.perm hp) (hA.app hB)
theorem st_tail {w0 w : World} {A B : List Ent} (h : St w0 (A ++ B) w) (hA : Fresh w0 A) : St w0 ([] ++ B) w := by
  have hp : (A ++ B).Perm (([] ++ B) ++ A) := by rw [List.nil_append]; exact List.perm_append_comm
  exact St.left (h.perm hp) hA
theorem src_pre {w : World} {g t tot m : Nat} {B C : List Int} {kd : IntKind} (hl : Ent.lies ⟨g, t, (B ++ C).map (Value.int kd), tot⟩ w) (hB : B.length = m) : Src w (some ⟨g, 0, none⟩) m kd B := by
  refine ⟨hB, .inr ⟨g, 0, rfl, hl.lt, fun j hj => ?_⟩⟩
  rw [Nat.zero_add]
  refine hl.cell ?_
  rw [List.getElem?_map, List.getElem?_append_left (by omega), List.getElem?_eq_getElem (by omega), List.getD_eq_getElem?_getD, List.getElem?_eq_getElem (by omega)]; rfl
theorem getD_last {B : List Int} {m : Nat} {z : Int} (h : B.length = m) : (B ++ [z]).getD m 0 = z := by subst h; simp [List.getD_eq_getElem?_getD]
theorem calls_yes {Pr : Program} {f : FuncId} {args : Array Value} {w : World} {p : Prop} [Decidable p] (hp : p) (h : Calls Pr f args w fun e w' => e = .returned (.bool (decide p)) ∧ St w [] w') : Calls Pr f args w fun e w' => e = .returned (.bool true) ∧ St w [] w' := by
  rw [decide_eq_true hp] at h; exact h
theorem results_tmp3 {fn : Func} {t u q : Tmp} (h : fn.results = #[.tmp t, .tmp u, .tmp q]) (tmps : Array Value) (P : Program) (w : World) :
    (results fn tmps).run P w = .ok (.tuple #[tmps.getD t undef, tmps.getD u undef, tmps.getD q undef]) w := by
  simp [results, h]
theorem TE.ret3 {P : Program} {n : Sz} {w0 : World} {L : List (Nat × Value)} {H : List Ent} {v u z : Value} {fn : Func} {R : Ending → World → Prop} {i j k : Nat} (hres : fn.results = #[.tmp i, .tmp j, .tmp k]) (hx : look L i = some v) (hy : look L j = some u) (hz : look L k = some z)
    (h : ∀ w, St w0 H w → R (.returned (.tuple #[v, u, z])) w) (hds : n.ds = [] := by rfl) : TE (bodyPost P fn R) .ret n w0 L H := fun a w hf hs =>
  ⟨hf.1.trans hds, _, by rw [results_tmp3 hres]; simp [Array.getD_eq_getD_getElem?, hf.2.2 i v hx, hf.2.2 j u hy, hf.2.2 k z hz], h w hs⟩
theorem look_t {L : List (Nat × Value)} {i : Nat} {p : Prop} [Decidable p] (hp : p) (h : look L i = some (.bool true)) : look L i = some (.bool (decide p)) := by rw [decide_eq_true hp]; exact h
theorem look_f {L : List (Nat × Value)} {i : Nat} {p : Prop} [Decidable p] (hp : ¬ p) (h : look L i = some (.bool false)) : look L i = some (.bool (decide p)) := by rw [decide_eq_false hp]; exact h
/-- The rounds of 'fields'. -/
structure WF where
  i : Nat
  v1 : Value
  H1 : List Ent
  v2 : Value
  W : List Int
  H2 : List Ent
/-! ### The mathematics -/
/-- A number fits its size. -/
def fitV (x n : Int) : Prop := 1 ≤ n ∧ n ≤ 8 ∧ (n = 8 ∨ shrI .u64 x (8 * n) = 0)
instance (x n : Int) : Decidable (fitV x n) := by unfold fitV; infer_instance
/-- The first k of the bytes of a number of size n. -/
def beP (x n : Int) (k : Nat) : List Int := (List.range k).map fun (i : Nat) => IntKind.u8.wrap (shrI .u64 x (8 * n - 8 * (i : Int) - 8))
def beV (x n : Int) : List Int := beP x n n.toNat
theorem beP_len (x n : Int) (k : Nat) : (beP x n k).length = k := by simp [beP]
theorem beP_zero (x n : Int) : beP x n 0 = [] := rfl
theorem beP_succ (x n : Int) (k : Nat) : beP x n (k + 1) = beP x n k ++ [IntKind.u8.wrap (shrI .u64 x (8 * n - 8 * (k : Int) - 8))] := by
  unfold beP; rw [List.range_succ, List.map_append]; rfl
theorem beV_len (x n : Int) : (beV x n).length = n.toNat := beP_len x n _
/-- A slice of the call's own, and how far it is. -/
structure WN where
  k : Nat
  v : Value
  He : List Ent
/-- What fields are written as. -/
def encF : List FV → List Int
  | [] => []
  | f :: l => beV f.x f.n ++ encF l
def fitAll (Fs : List FV) : Prop := ∀ f ∈ Fs, fitV f.x f.n
theorem encF_app (Fs Gs : List FV) : encF (Fs ++ Gs) = encF Fs ++ encF Gs := by
  induction Fs with
  | nil => rfl
  | cons f l ih => simp [encF, ih]
theorem encF_one (f : FV) : encF [f] = beV f.x f.n := by simp [encF]
theorem take_one {α : Type} {Fs : List α} {i : Nat} {f : α} (h : Fs[i]? = some f) : Fs.take (i + 1) = Fs.take i ++ [f] := by rw [List.take_add_one, h, Option.toList_some]
theorem encF_take {Fs : List FV} {i : Nat} {f : FV} (h : Fs[i]? = some f) : encF (Fs.take (i + 1)) = encF (Fs.take i) ++ beV f.x f.n := by
  rw [List.take_add_one, h, Option.toList_some, encF_app, encF_one]
theorem encF_le {Fs : List FV} (h : fitAll Fs) : (encF Fs).length ≤ 8 * Fs.length := by
  induction Fs with
  | nil => simp [encF]
  | cons f l ih =>
    have h1 := h f List.mem_cons_self
    have h2 := ih (fun g hg => h g (List.mem_cons_of_mem _ hg))
    unfold fitV at h1
    simp only [encF, List.length_append, beV_len, List.length_cons]; omega
/-- The fields before the first that does not fit. -/
def fitAllB (Fs : List FV) : Bool := Fs.all fun f => decide (fitV f.x f.n)
theorem fitAllB_iff (Fs : List FV) : fitAllB Fs = true ↔ fitAll Fs := by
  unfold fitAllB fitAll; rw [List.all_eq_true]; simp
instance (Fs : List FV) : Decidable (fitAll Fs) := decidable_of_iff _ (fitAllB_iff Fs)
theorem fitAll_nil : fitAll [] := fun f hf => by cases hf
theorem fitAll_take {Fs : List FV} {i : Nat} {f : FV} (h : Fs[i]? = some f) : fitAll (Fs.take (i + 1)) ↔ fitAll (Fs.take i) ∧ fitV f.x f.n := by
  unfold fitAll
  rw [List.take_add_one, h, Option.toList_some]
  constructor
  · intro H; exact ⟨fun g hg => H g (List.mem_append_left _ hg), H f (List.mem_append_right _ (List.mem_singleton.2 rfl))⟩
  · rintro ⟨h1, h2⟩ g hg
    rcases List.mem_append.1 hg with hg | hg
    · exact h1 g hg
    · rw [List.mem_singleton.1 hg]; exact h2
end Go.Proofs.Ytdllgfkcakhoeaa
