/-
  Commands that a callee has made; what the check of a delta depends on; a delta without a command, and with one twice; the chapter's example.
-/
import Derived.Test.YtkgamkjdkapchaaSrt
namespace Go.Proofs.Ytkgamkjdkapchaa
set_option linter.unusedVariables false
set_option linter.unusedSimpArgs false
set_option linter.unusedVariables false
open Go Go.RowKit
/-- Commands in memory of the callee's own. -/
def OwnD (N : Nat) (A : Option Addr) (m : Nat) (Es : List CV) (He : List Ent) : Prop := (∀ e ∈ He, N ≤ e.g) ∧ NumsC Es ∧ (m = 0 ∨ ∃ b off, A = some ⟨b, off, none⟩) ∧ ∀ w : World, (∀ e ∈ He, e.lies w) → SrcC w A m Es ∧ DatC w Es
theorem OwnD.mono {N N' m : Nat} {A : Option Addr} {Es : List CV} {He : List Ent} (h : OwnD N' A m Es He) (hN : N ≤ N') : OwnD N A m Es He := ⟨fun e he => Nat.le_trans hN (h.1 e he), h.2⟩
theorem OwnD.num {N m : Nat} {A : Option Addr} {Es : List CV} {He : List Ent} (h : OwnD N A m Es He) : NumsC Es := h.2.1
theorem OwnD.src {N m : Nat} {A : Option Addr} {Es : List CV} {He : List Ent} (h : OwnD N A m Es He) {w : World} (hs : ∀ e ∈ He, e.lies w) : SrcC w A m Es := (h.2.2.2 w hs).1
theorem OwnD.dat {N m : Nat} {A : Option Addr} {Es : List CV} {He : List Ent} (h : OwnD N A m Es He) {w : World} (hs : ∀ e ∈ He, e.lies w) : DatC w Es := (h.2.2.2 w hs).2
theorem OwnD.addr {N m : Nat} {A : Option Addr} {Es : List CV} {He : List Ent} (h : OwnD N A m Es He) (hm : 0 < m) : ∃ b off, A = some ⟨b, off, none⟩ := h.2.2.1.resolve_left (by omega)
theorem OwnD.rows {N m b off : Nat} {Es : List CV} {He : List Ent} (h : OwnD N (some ⟨b, off, none⟩) m Es He) (hm : 0 < m) {w : World} (hs : ∀ e ∈ He, e.lies w) : RowsC w b off Es := by
  rcases (h.src hs).2 with h1 | ⟨b', off', h1, _, h2⟩
  · omega
  · cases h1; exact h2
/-- The same commands, wherever their data lie. -/
def keyE (x : CV) : (Int × Int × Int × Int × List Int) × Nat := (valC x, x.m)
def sameE (Fs Gs : List CV) : Prop := Fs.map keyE = Gs.map keyE
theorem sameE.c {Fs Gs : List CV} (h : sameE Fs Gs) : sameC Fs Gs := by
  have := congrArg (List.map Prod.fst) h
  rw [List.map_map, List.map_map] at this; exact this
theorem sameE.len {Fs Gs : List CV} (h : sameE Fs Gs) : Fs.length = Gs.length := sameC_len h.c
theorem sameE.tr {Fs Gs Es : List CV} (h : sameE Fs Gs) (h2 : sameE Gs Es) : sameE Fs Es := Eq.trans h h2
/-- Few commands with few bytes, one more than the laws ask for. -/
def fewQ (Cs : List CV) : Prop := (∀ (i : Nat) (x : CV), Cs[i]? = some x → x.m ≤ 300) ∧ Cs.length ≤ 50
theorem fewP.q {Cs : List CV} (h : fewP Cs) : fewQ Cs := ⟨h.1, by have := h.2; omega⟩
theorem fewQ.sub {Cs Es : List CV} (h : fewP Cs) (hs : ∀ x ∈ Es, x ∈ Cs) (hl : Es.length ≤ 50) : fewQ Es := ⟨fun i x hx => by
  obtain ⟨j, hj⟩ := List.mem_iff_getElem?.1 (hs x (List.mem_of_getElem? hx))
  exact h.1 j x hj, hl⟩
theorem fewQ.sub2 {Cs Es : List CV} (h : fewQ Cs) (hp : Es.Perm Cs) : fewQ Es := ⟨fun i x hx => by
  obtain ⟨j, hj⟩ := List.mem_iff_getElem?.1 (hp.mem_iff.1 (List.mem_of_getElem? hx))
  exact h.1 j x hj, by rw [hp.length_eq]; exact h.2⟩
theorem NumsC.sub {Cs Es : List CV} (h : NumsC Cs) (hs : ∀ x ∈ Es, x ∈ Cs) : NumsC Es := fun i x hx => by
  obtain ⟨j, hj⟩ := List.mem_iff_getElem?.1 (hs x (List.mem_of_getElem? hx))
  exact h j x hj
theorem DatC.sub {w : World} {Cs Es : List CV} (h : DatC w Cs) (hs : ∀ x ∈ Es, x ∈ Cs) : DatC w Es := fun i x hx => by
  obtain ⟨j, hj⟩ := List.mem_iff_getElem?.1 (hs x (List.mem_of_getElem? hx))
  exact h j x hj
theorem sameE.m {Fs Gs : List CV} (h : sameE Fs Gs) {i : Nat} {x y : CV} (hx : Fs[i]? = some x) (hy : Gs[i]? = some y) : x.m = y.m := by
  have h1 := congrArg (·[i]?) h
  simp only [List.getElem?_map, hx, hy, Option.map_some, Option.some.injEq] at h1
  exact congrArg Prod.snd h1
theorem fewQ.same {Cs Es : List CV} (h : fewQ Cs) (hs : sameE Es Cs) : fewQ Es := by
  have hl := hs.len
  refine ⟨fun i x hx => ?_, by rw [hl]; exact h.2⟩
  have hi := (List.getElem?_eq_some_iff.1 hx).1
  have hy : Cs[i]? = some Cs[i] := List.getElem?_eq_getElem (by omega)
  have h5 := h.1 i _ hy
  have := hs.m hx hy
  omega
/-! ### What the check depends on -/
def normC (x : CV) : CV := { x with A := none, c := 0, B := [] }
theorem firstF_congr {p q : Nat → Prop} (h : ∀ i, p i ↔ q i) : firstF p = firstF q := by
  have : p = q := funext fun i => propext (h i)
  rw [this]
theorem faultI_norm (o n : Int) (Cs : List CV) : faultI o n (Cs.map normC) = faultI o n Cs := by
  have h1 : firstF (bad1 o n (Cs.map normC)) = firstF (bad1 o n Cs) := firstF_congr fun i => by
    unfold bad1
    rw [List.getElem?_map]
    constructor
    · rintro ⟨x, hx, hn⟩
      obtain ⟨y, hy, rfl⟩ := Option.map_eq_some_iff.1 hx
      exact ⟨y, hy, hn⟩
    · rintro ⟨x, hx, hn⟩
      exact ⟨normC x, by rw [hx]; rfl, hn⟩
  have h2 : firstF (bad2 (Cs.map normC)) = firstF (bad2 Cs) := firstF_congr fun i => by
    unfold bad2
    constructor
    · rintro ⟨x, j, y, hx, hj, hy, hm⟩
      rw [List.getElem?_map] at hx hy
      obtain ⟨x', hx', rfl⟩ := Option.map_eq_some_iff.1 hx
      obtain ⟨y', hy', rfl⟩ := Option.map_eq_some_iff.1 hy
      exact ⟨x', j, y', hx', hj, hy', hm⟩
    · rintro ⟨x, j, y, hx, hj, hy, hm⟩
      exact ⟨normC x, j, normC y, by rw [List.getElem?_map, hx]; rfl, hj, by rw [List.getElem?_map, hy]; rfl, hm⟩
  have h3 : (Cs.map normC).map tg = Cs.map tg := by rw [List.map_map]; rfl
  have h4 : gapI n (Cs.map normC) = gapI n Cs := by unfold gapI; rw [h3]
  have h5 : ∀ i : Nat, ((Cs.map normC)[i]?).elim 0 (singleV o n) = (Cs[i]?).elim 0 (singleV o n) := fun i => by
    rw [List.getElem?_map]
    cases Cs[i]? <;> rfl
  unfold faultI
  rw [h1, h2, h4]
  simp only [h5]
theorem findI_norm (Cs : List CV) (p : Int) : findI (Cs.map normC) p = findI Cs p := findI_is (by
  rcases findI_spec Cs p with ⟨h1, h2⟩ | ⟨i, x, h1, h2, h3, h4⟩
  · refine .inl ⟨h1, fun i x hx => ?_⟩
    rw [List.getElem?_map] at hx
    obtain ⟨y, hy, rfl⟩ := Option.map_eq_some_iff.1 hx
    exact h2 i y hy
  · refine .inr ⟨i, normC x, h1, by rw [List.getElem?_map, h2]; rfl, h3, fun j y hj hy => ?_⟩
    rw [List.getElem?_map] at hy
    obtain ⟨z, hz, rfl⟩ := Option.map_eq_some_iff.1 hy
    exact h4 j z hj hz)
theorem sameE.n {Cs Es : List CV} (h : sameE Es Cs) : Es.map normC = Cs.map normC := by
  have := congrArg (List.map fun (q : (Int × Int × Int × Int × List Int) × Nat) => (⟨q.1.1, q.1.2.1, q.1.2.2.1, q.1.2.2.2.1, none, q.2, 0, []⟩ : CV)) h
  rw [List.map_map, List.map_map] at this; exact this
theorem faultI_same {o n : Int} {Cs Es : List CV} (h : sameE Es Cs) : faultI o n Es = faultI o n Cs := by
  rw [← faultI_norm o n Es, h.n, faultI_norm]
theorem sameE.tg {Cs Es : List CV} (h : sameE Es Cs) : Es.map tg = Cs.map tg := by
  have := congrArg (List.map Proofs.Ytkgamkjdkapchaa.tg) h.n
  rw [List.map_map, List.map_map] at this; exact this
/-! ### A delta without one command, and with one twice -/
theorem single_of {o n : Int} {Cs : List CV} (h : ∀ (i : Nat) (x : CV), Cs[i]? = some x → singleV o n x = 0) {Es : List CV} (hs : ∀ x ∈ Es, x ∈ Cs) : ∀ (i : Nat) (x : CV), Es[i]? = some x → singleV o n x = 0 := fun i x hx => by
  obtain ⟨j, hj⟩ := List.mem_iff_getElem?.1 (hs x (List.mem_of_getElem? hx))
  exact h j x hj
theorem bad2_none {N : Int} {Es : List CV} (ht : tidyT 0 N (Es.map tg)) : ∀ i, ¬ bad2 Es i := by
  rintro i ⟨x, j, y, hx, hj, hy, hm⟩
  have h2 := List.pairwise_iff_getElem.1 ht.2
  obtain ⟨hil, rfl⟩ := List.getElem?_eq_some_iff.1 hx
  obtain ⟨hjl, rfl⟩ := List.getElem?_eq_some_iff.1 hy
  have h3 := h2 j i (by simpa using hjl) (by simpa using hil) hj
  simp only [List.getElem_map] at h3
  have hpi := ht.1 (tg Es[i]) (List.mem_map.2 ⟨_, List.getElem_mem hil, rfl⟩)
  have hpj := ht.1 (tg Es[j]) (List.mem_map.2 ⟨_, List.getElem_mem hjl, rfl⟩)
  unfold okT at hpi hpj
  exact (meets_apart hpi.2.1 hpj.2.1).2 h3.symm hm
theorem valid_of {o n : Int} {Es : List CV} (h1 : okLen o n) (h2 : ∀ (i : Nat) (x : CV), Es[i]? = some x → singleV o n x = 0) (h3 : tidyT 0 n (Es.map tg)) (h4 : coverT 0 n (Es.map tg)) : faultI o n Es = (0, 0) := by
  rw [faultI_gap h1 h2 (bad2_none h3), gapI_no h4]; rfl
theorem ValidC.permV {o n : Int} {Cs Es : List CV} (h : ValidC o n Cs) (hp : Es.Perm Cs) : faultI o n Es = (0, 0) := by
  obtain ⟨h1, h2, _⟩ := h.perm hp
  exact valid_of h.len (single_of h.single fun x hx => hp.mem_iff.1 hx) h1 h2
theorem breaks_less {o n : Int} {Cs : List CV} {k : Nat} {x : CV} (h : ValidC o n Cs) (hx : Cs[k]? = some x) : faultI o n (Cs.take k ++ Cs.drop (k + 1)) = (3, x.t) := by
  obtain ⟨hk, rfl⟩ := List.getElem?_eq_some_iff.1 hx
  have hsplit : Cs = Cs.take k ++ Cs[k] :: Cs.drop (k + 1) := by rw [← List.drop_eq_getElem_cons hk, List.take_append_drop]
  have hmap : Cs.map tg = (Cs.take k).map tg ++ tg Cs[k] :: (Cs.drop (k + 1)).map tg := by
    rw [← List.map_cons, ← List.map_append, ← hsplit]
  have ht := h.tidy
  have hc := h.cover
  rw [hmap] at ht hc
  have hl := least_without ht hc
  have hsub : ∀ y ∈ Cs.take k ++ Cs.drop (k + 1), y ∈ Cs := fun y hy => (List.mem_append.1 hy).elim List.mem_of_mem_take List.mem_of_mem_drop
  have ht2 : tidyT 0 n ((Cs.take k ++ Cs.drop (k + 1)).map tg) := by
    rw [List.map_append]
    refine ⟨fun p hp => ht.1 p ((List.mem_append.1 hp).elim (fun h => List.mem_append.2 (.inl h)) fun h => List.mem_append.2 (.inr (List.mem_cons_of_mem _ h))), ?_⟩
    have := ht.2
    rw [List.pairwise_append] at this ⊢
    exact ⟨this.1, (List.pairwise_cons.1 this.2.1).2, fun a ha b hb => this.2.2 a ha b (List.mem_cons_of_mem _ hb)⟩
  rw [faultI_gap h.len (single_of h.single hsub) (bad2_none ht2)]
  have hg : gapI n (Cs.take k ++ Cs.drop (k + 1)) = (tg Cs[k]).1 := gapI_is (by rw [List.map_append]; exact hl)
  rw [hg]
  exact if_pos hl.1
theorem breaks_more {o n : Int} {Cs : List CV} {k : Nat} {x : CV} (h : ValidC o n Cs) (hx : Cs[k]? = some x) : faultI o n (Cs ++ [x]) = (4, (Cs.length : Int)) := by
  have hk := (List.getElem?_eq_some_iff.1 hx).1
  have hsub : ∀ y ∈ Cs ++ [x], y ∈ Cs := fun y hy => (List.mem_append.1 hy).elim id fun h => by rw [List.mem_singleton.1 h]; exact List.mem_of_getElem? hx
  have hl := (single_vld (h.single k x hx)).2.1
  refine faultI_over (x := x) (j := k) (y := x) h.len (single_of h.single hsub) (by rw [List.getElem?_append_right (Nat.le_refl _)]; simp) hk (by rw [List.getElem?_append_left hk]; exact hx) (by unfold meets tg; dsimp only; omega) (fun i' hi' hb => ?_)
  obtain ⟨a, j, b, ha, hj, hb, hm⟩ := hb
  rw [List.getElem?_append_left hi'] at ha
  rw [List.getElem?_append_left (by omega)] at hb
  exact bad2_none h.tidy i' ⟨a, j, b, ha, hj, hb, hm⟩
/-! ### The sorted delta -/
theorem chain_at : ∀ {l : List (Int × Int)} {a : Int} {i : Nat} {p : Int × Int}, chainT a l → l[i]? = some p → p.1 = a + ((l.take i).map (·.2)).sum
  | q :: l, a, 0, p, h, hp => by
    simp at hp; subst hp
    simp [h.1]
  | q :: l, a, i + 1, p, h, hp => by
    have := chain_at h.2 (by simpa using hp)
    rw [this]; simp; omega
theorem chain_tot {Es : List CV} {i : Nat} {x : CV} (h : chainT 0 (Es.map tg)) (hx : Es[i]? = some x) : x.t = totI lnV Es i := by
  have h1 := chain_at (i := i) (p := tg x) h (by rw [List.getElem?_map, hx]; rfl)
  have h2 : (((Es.map tg).take i).map (·.2)) = (Es.take i).map lnV := by
    rw [← List.map_take, List.map_map]; rfl
  rw [h2] at h1
  unfold totI
  have h3 : (tg x).1 = x.t := rfl
  rw [h3] at h1; omega
/-! ### The chapter's example -/
def exA : CV := ⟨1, 2, 0, 4, none, 0, 0, []⟩
def exB (A : Option Addr) : CV := ⟨2, 0, 0, 0, A, 2, 2, [97, 98]⟩
theorem ex_single (A : Option Addr) : ∀ (i : Nat) (x : CV), [exA, exB A][i]? = some x → singleV 4 6 x = 0 := fun i x hx => by
  match i, hx with
  | 0, hx => simp at hx; subst hx; decide
  | 1, hx => simp at hx; subst hx; show singleV 4 6 (exB none) = 0; decide
  | i + 2, hx => simp at hx
theorem ex_tidy (A : Option Addr) : tidyT 0 6 ([exA, exB A].map tg) ∧ coverT 0 6 ([exA, exB A].map tg) := by
  have e : [exA, exB A].map tg = [(2, 4), (0, 2)] := rfl
  rw [e]
  refine ⟨⟨fun p hp => ?_, ?_⟩, fun x h1 h2 => ?_⟩
  · simp only [List.mem_cons, List.not_mem_nil, or_false] at hp
    rcases hp with rfl | rfl <;> (unfold okT; omega)
  · refine .cons (fun p hp => ?_) (.cons (fun p hp => by cases hp) .nil)
    rw [List.mem_singleton.1 hp]; unfold apartT; omega
  · by_cases h : x < 2
    · exact ⟨(0, 2), by simp, by unfold hasB; dsimp only; omega⟩
    · exact ⟨(2, 4), by simp, by unfold hasB; dsimp only; omega⟩
theorem ex_ok (A : Option Addr) : faultI 4 6 [exA, exB A] = (0, 0) := valid_of (by unfold okLen; omega) (ex_single A) (ex_tidy A).1 (ex_tidy A).2
theorem ex_validC (A : Option Addr) : ValidC 4 6 [exA, exB A] := validC (by rw [ex_ok])
theorem ex_gap : faultI 4 6 [exA] = (3, 0) := breaks_less (ex_validC none) (k := 1) (x := exB none) rfl
theorem lies_srcC {w : World} {g t tot m : Nat} {cs : List Value} {Cs : List CV} (h : Ent.lies ⟨g, t, cs, tot⟩ w) (hc : cs = flatC Cs) (hm : Cs.length = m) : SrcC w (some ⟨g, 0, none⟩) m Cs := ⟨hm, .inr ⟨g, 0, rfl, h.lt, fun i x hx j u hu => by
  subst hc
  rw [Nat.zero_add]
  exact h.cell (flatC_get hx hu)⟩⟩
theorem ex_num (g : Nat) : NumsC [exA, exB (some ⟨g, 0, none⟩)] := fun i x hx => by
  match i, hx with
  | 0, hx => simp at hx; subst hx; unfold NumC exA; dsimp only; omega
  | 1, hx => simp at hx; subst hx; unfold NumC exB; dsimp only; omega
  | i + 2, hx => simp at hx
theorem ex_few (g : Nat) : fewQ [exA, exB (some ⟨g, 0, none⟩)] := ⟨fun i x hx => by
  match i, hx with
  | 0, hx => simp at hx; subst hx; unfold exA; dsimp only; omega
  | 1, hx => simp at hx; subst hx; unfold exB; dsimp only; omega
  | i + 2, hx => simp at hx, by simp⟩
theorem ex_dat {w : World} {g : Nat} (h : Src w (some ⟨g, 0, none⟩) 2 .u8 [97, 98]) : DatC w [exA, exB (some ⟨g, 0, none⟩)] := fun i x hx => by
  match i, hx with
  | 0, hx => simp at hx; subst hx; exact ⟨src_no, bytes_no⟩
  | 1, hx =>
    simp at hx; subst hx
    exact ⟨h, fun x hx => by
      unfold exB at hx; dsimp only at hx
      simp only [List.mem_cons, List.not_mem_nil, or_false] at hx
      omega⟩
  | i + 2, hx => simp at hx
theorem ex1_num : NumsC [exA] := (ex_num 0).sub fun x hx => by rw [List.mem_singleton.1 hx]; exact List.mem_cons_self
theorem ex1_few : fewQ [exA] := ⟨fun i x hx => (ex_few 0).1 0 x (by
  match i, hx with
  | 0, hx => exact hx
  | i + 1, hx => simp at hx), by simp⟩
theorem ex1_dat {w : World} : DatC w [exA] := fun i x hx => by
  match i, hx with
  | 0, hx => simp at hx; subst hx; exact ⟨src_no, bytes_no⟩
  | i + 1, hx => simp at hx
theorem ex_find (A : Option Addr) : findI [exA, exB A] 1 = 1 := findI_is (.inr ⟨1, exB A, rfl, rfl, by unfold hasB tg exB lenV; dsimp only; omega, fun j y hj hy => by
  obtain rfl : j = 0 := by omega
  simp at hy; subst hy
  unfold hasB tg exA lenV; dsimp only; omega⟩)
end Go.Proofs.Ytkgamkjdkapchaa
