/-
 The reader: its block, its bytes, what its calls leave.
-/
import Derived.Test.YtegddcklbmonfaaGreatDoorYMakesPc
import Derived.Test.YtegddcklbmonfaaGreatDoorYMakesPb
import Derived.Test.YtegddcklbmonfaaGreatDoorYMakesPa
import Derived.Shelf.SlSortCmp.WholeK
import Derived.Shelf.SlicesG.Cmp
import Derived.Ground.SlsfProg
import Derived.Ground.SlgcProg
import Derived.Test.YtegddcklbmonfaaGreatDoorProg
import Derived.WalkKit
/-
 A slice of the call's own whose elements have several cells each: 'append' onto it, in the text's order and in a region that draws its order.
-/
namespace Go.Proofs.YtegddcklbmonfaaGreatDoor
set_option maxRecDepth 100000
set_option maxHeartbeats 2000000
open Go.Value (int slice)
set_option linter.unusedVariables false
set_option linter.unusedSimpArgs false
open Go Go.RowKit
section
variable {P : Program} {ops : Array Oper} {Q : Exit → Act → World → Prop} {n : Sz} {w0 : World} {L L' : List (Nat × Value)} {H HB X X0 : List Ent}
variable {o : Oper} {rest : List Oper} {v u : Value} {x y z : Operand} {k m j : Nat} {t t' e : TypeId} {ks : List Nat} {kd : IntKind} {r : Value → List Ent → Prop} {rs : List (Value → List Ent → Prop)}
def OwnS (N : Nat) (t : TypeId) (s : Nat) (v : Value) (n : Nat) (cs : List Value) (He : List Ent) : Prop :=
 cs.length = n * s ∧ ((v = .slice none 0 0 ∧ n = 0 ∧ He = []) ∨ ∃ g cap, v = .slice (some ⟨g, 0, none⟩) n cap ∧ He = [⟨g, t, cs, cap * s⟩] ∧ N ≤ g ∧ n ≤ cap ∧ cap ≤ maxLen)
theorem OwnS.nil (N : Nat) (t : TypeId) (s : Nat) : OwnS N t s (.slice none 0 0) 0 [] [] := ⟨by simp, .inl ⟨rfl, rfl, rfl⟩⟩
theorem OwnS.empty {N g : Nat} {t : TypeId} {s tot : Nat} (h : N ≤ g) (ht : tot = 0 * s) : OwnS N t s (.slice (some ⟨g, 0, none⟩) 0 0) 0 [] [⟨g, t, [], tot⟩] := ⟨by simp, .inr ⟨g, 0, rfl, by rw [ht], h, Nat.le_refl _, by unfold maxLen; omega⟩⟩
theorem OwnS.mono {N N' s nn : Nat} {cs : List Value} {He : List Ent} (h : OwnS N' t s v nn cs He) (hN : N ≤ N') : OwnS N t s v nn cs He := by
 refine ⟨h.1, ?_⟩
 rcases h.2 with h | ⟨g, cap, h1, h2, h3, h4⟩
 ·exact .inl h
 ·exact .inr ⟨g, cap, h1, h2, Nat.le_trans hN h3, h4⟩
theorem OwnS.new {N s nn : Nat} {cs : List Value} {He : List Ent} (h : OwnS N t s v nn cs He) : ∀ e ∈ He, N ≤ e.g := by
 rcases h.2 with ⟨_, _, rfl⟩ | ⟨g, cap, _, rfl, hN, _⟩
 ·intro e he; cases he
 ·intro e he; rw [List.mem_singleton.1 he]; exact hN
theorem OwnS.form {N s nn : Nat} {cs : List Value} {He : List Ent} (h : OwnS N t s v nn cs He) : ∃ A c, v = .slice A nn c ∧ nn ≤ c ∧ c ≤ 9223372036854775807 := by
 rcases h.2 with ⟨rfl, rfl, rfl⟩ | ⟨g, cap, rfl, rfl, hN, hc, hm⟩
 ·exact ⟨none, 0, rfl, Nat.le_refl _, by omega⟩
 ·exact ⟨_, cap, rfl, hc, by unfold maxLen at hm; omega⟩
theorem OwnS.at0 {N s nn m c : Nat} {A : Option Addr} {cs : List Value} {He : List Ent} (h : OwnS N t s (.slice A m c) nn cs He) (hm : 0 < nn) : ∃ g, A = some ⟨g, 0, none⟩ ∧ m = nn ∧ He = [⟨g, t, cs, c * s⟩] ∧ N ≤ g ∧ nn ≤ c := by
 rcases h.2 with ⟨_, h2, _⟩ | ⟨g, cap, h1, h2, h3, h4, _⟩
 ·omega
 ·cases h1; exact ⟨g, rfl, rfl, h2, h3, h4⟩
theorem OwnS.row {w : World} {N s nn : Nat} {cs : List Value} {He : List Ent} (h : OwnS N t s v nn cs He) (hs : ∀ e ∈ He, e.lies w) : w.ownsRow N t s v nn cs := by
 refine ⟨h.1, ?_⟩
 rcases h.2 with ⟨rfl, rfl, rfl⟩ | ⟨g, cap, rfl, rfl, hN, hc, hm⟩
 ·exact .inl ⟨rfl, rfl⟩
 ·obtain ⟨cur, h1, h2, h3⟩ := hs _ (List.mem_singleton.2 rfl)
  refine .inr ⟨g, cap, cur, rfl, hN, h1, hc, hm, h2, ?_⟩
  rw [← h.1]
  apply List.ext_getElem?
  intro i
  simp only [List.getElem?_take]
  by_cases hi : i < cs.length
  ·rw [if_pos hi]
   have := h3 i _ (List.getElem?_eq_getElem hi)
   rw [List.getElem?_eq_getElem hi, Array.getElem?_toList]; exact this
  ·rw [if_neg hi, List.getElem?_eq_none (by omega)]
theorem ownS_of_row {w : World} {N s nn : Nat} {cs : List Value} (h : w.ownsRow N t s v nn cs) : ∃ He, OwnS N t s v nn cs He ∧ (He = [] ∨ ∃ e, He = [e] ∧ e.lies w ∧ N ≤ e.g ∧ v.ownBlock = some e.g) := by
 rcases h.2 with ⟨rfl, rfl⟩ | ⟨g, cap, cur, rfl, hN, h1, hc, hm, hsz, ht⟩
 ·exact ⟨[], ⟨h.1, .inl ⟨rfl, rfl, rfl⟩⟩, .inl rfl⟩
 ·refine ⟨[⟨g, t, cs, cap * s⟩], ⟨h.1, .inr ⟨g, cap, rfl, rfl, hN, hc, hm⟩⟩, .inr ⟨_, rfl, ⟨cur, h1, hsz, ?_⟩, hN, rfl⟩⟩
  intro i u hu
  have hi : i < cs.length := (List.getElem?_eq_some_iff.1 hu).1
  have h2 : (cur.toList.take (nn * s))[i]? = some u := by rw [ht]; exact hu
  rw [← h.1] at h2
  simpa [List.getElem?_take, hi] using h2
def SrcV (w : World) (As : Option Addr) (m : Nat) (news : List Value) : Prop := (As = none ∧ m = 0) ∨ ∃ a, As = some a ∧ ∀ j u, news[j]? = some u → w.cell? (a.add j) = some u
theorem run_append_none {w : World} {s nn bytes sc : Nat} {N : Nat} {cs : List Value} {He : List Ent} {zv : Value} {ty : TypeId} (h1 : P.underlying t = some (.slice e)) (hz : (P.info? e).map (fun i => (i.zero, i.size, i.bytes)) = some (some zv, s, bytes)) (h : OwnS N e s v nn cs He) :
  (Builtin.append_ #[t, t] ty #[v, .slice none 0 sc]).run P w = .ok v w := by
 obtain ⟨i, hi1, hi2⟩ := Option.map_eq_some_iff.1 hz
 rcases h.2 with ⟨rfl, rfl, rfl⟩ | ⟨g, cap, rfl, rfl, hN, hc, hm⟩
 ·simp [Builtin.append_, Sem.run_bind, run_under h1, sizeOf, typeInfo, hi1, Builtin.firstCells, Builtin.lenOf]
 ·simp [Builtin.append_, Sem.run_bind, run_under h1, sizeOf, typeInfo, hi1, Builtin.firstCells, Builtin.lenOf, storeCells, hc]
theorem run_appendS {w : World} {As : Option Addr} {s nn m sc bytes N : Nat} {cs news : List Value} {He : List Ent} {zv : Value} {ty : TypeId} (h1 : P.underlying t = some (.slice e)) (hz : (P.info? e).map (fun i => (i.zero, i.size, i.bytes)) = some (some zv, s, bytes)) (hzc : zv.cells.size = s) (hs0 : 0 < s)
  (hown : OwnS N e s v nn cs He) (hs : St w0 (H ++ He) w) (hN : N ≤ w0.heap.size) (hN2 : w0.heap.size ≤ N) (hl : news.length = m * s) (hsrc : SrcV w As m news) (h1c : ∀ u ∈ news, u.oneCell' = true) (h63 : nn + m ≤ maxLen) (hbytes : (nn + m) * bytes ≤ 140737488355328) (hsc : As = none → sc = sc) :
  ∃ v' w' He', (Builtin.append_ #[t, t] ty #[v, .slice As m sc]).run P w = .ok v' w' ∧ OwnS N e s v' (nn + m) (cs ++ news) He' ∧ St w0 (H ++ He') w' := by
 obtain rfl : N = w0.heap.size := by omega
 rcases hsrc with ⟨rfl, rfl⟩ | ⟨a, rfl, hcells⟩
 ·have hn : news = [] := List.length_eq_zero_iff.1 (by rw [hl]; simp)
  subst hn
  exact ⟨v, w, He, run_append_none h1 hz hown, by rw [List.append_nil, Nat.add_zero]; exact hown, hs⟩
 ·obtain ⟨i, hi1, hi2⟩ := Option.map_eq_some_iff.1 hz
  simp only [Prod.mk.injEq] at hi2
  obtain ⟨hz1, hz2, hz3⟩ := hi2
  have hrow := hown.row (w := w) hs.right
  obtain ⟨v', w', hrun, hrow', hgrown, hblk0, h6⟩ := run_append_own_at (P := P) w w0.heap.size t ty e i zv s bytes h1 hi1 hz1 hz2 hz3 hzc hs0 v nn cs hrow a m sc news hl hcells h1c h63 hbytes hs.size
  obtain ⟨He', hown', hHe⟩ := ownS_of_row hrow'
  refine ⟨v', w', He', hrun, hown', St.regrow hs hgrown ?_ ?_ ?_ ?_⟩
  ·rcases hown.2 with ⟨rfl, _, rfl⟩ | ⟨g, cap, rfl, rfl, _⟩
   ·simp
   ·simp [Value.ownBlock]
  ·rcases hown.2 with ⟨rfl, _, rfl⟩ | ⟨g, cap, rfl, rfl, hN, _⟩
   ·simp [Value.ownBlock]
   ·simp only [Value.ownBlock]; rintro b hb; cases hb; exact hN
  ·rcases hown.2 with ⟨rfl, _, rfl⟩ | ⟨g, cap, rfl, rfl, hN, _⟩
   ·simp [Value.ownBlock]
   ·intro c hc heq
    simp only [Value.ownBlock, Option.some.injEq] at heq
    exact (List.pairwise_append.1 hs.apart).2.2 c hc _ (List.mem_singleton.2 rfl) heq
  ·rcases hHe with h | ⟨d, h, hd, hdN, hdv⟩
   ·exact .inl h
   ·refine .inr ⟨d, h, hd, hdN, ?_⟩
    rcases h6 with hb | hb
    ·left; rw [← hdv, hb]
    ·right; have := Option.some.inj (hb.symm.trans hdv); omega
theorem TL.appendS {As : Option Addr} {s nn sc bytes : Nat} {cs news : List Value} {He : List Ent} {zv : Value} (hg : Wants n ops L o) (hi' : inside n o.dst = true) (ho : o.op = .call { callee := .builtin .append, args := #[x, y], argTypes := #[t, t] })
  (h1 : P.underlying t = some (.slice e)) (hz : (P.info? e).map (fun i => (i.zero, i.size, i.bytes)) = some (some zv, s, bytes)) (hzc : zv.cells.size = s) (hs0 : 0 < s)
  (hx : ev L x = some v) (hy : ev L y = some (.slice As m sc)) (hown : OwnS w0.heap.size e s v nn cs He) (hl : news.length = m * s) (hsrc : ∀ w, St w0 (H ++ He) w → SrcV w As m news) (h1c : ∀ u ∈ news, u.oneCell' = true)
  (h63 : nn + m ≤ maxLen) (hbytes : (nn + m) * bytes ≤ 140737488355328)
  (hr : ∀ v' He', OwnS w0.heap.size e s v' (nn + m) (cs ++ news) He' → TL P ops Q n w0 rest (put L o.dst v') (H ++ He')) : TL P ops Q n w0 (o :: rest) L (H ++ He) :=
 fun a w hf hs => wpL_wants hg.nd (hg a hf) fun K hK => by
  obtain ⟨v', w', He', hrun, hown', hst⟩ := run_appendS (P := P) (t := t) (ty := o.type) (sc := sc) h1 hz hzc hs0 hown hs (Nat.le_refl _) (Nat.le_refl _) hl (hsrc w hs) h1c h63 hbytes (fun _ => rfl)
  have hrun' : (execOp a.eval o).run P w = .ok (.value v') w' := by
   simp only [execOp, ho, resolve, invoke, builtin, Sem.run_bind, Sem.run_pure, Result.andThen_ok, List.map_toArray, List.map_cons, List.map_nil, hf.eval hx, hf.eval hy, hrun]
  unfold Oper.wp; rw [hrun']
  exact hK _ _ (hr v' He' hown' _ _ (hf.put o.dst _ hi') hst)
theorem TT.appendS {As : Option Addr} {s nn sc bytes : Nat} {cs news : List Value} {He : List Ent} {zv : Value} (hg : Wants n ops L o) (hi' : inside n o.dst = true) (ho : o.op = .call { callee := .builtin .append, args := #[x, y], argTypes := #[t, t] })
  (h1 : P.underlying t = some (.slice e)) (hz : (P.info? e).map (fun i => (i.zero, i.size, i.bytes)) = some (some zv, s, bytes)) (hzc : zv.cells.size = s) (hs0 : 0 < s)
  (hx : ev L x = some v) (hy : ev L y = some (.slice As m sc)) (hown : OwnS w0.heap.size e s v nn cs He) (hXp : X.Perm (X0 ++ He)) (hl : news.length = m * s)
  (hsrc : ∀ Z w, Fresh w0 Z → St w0 (HB ++ ((X0 ++ He) ++ Z)) w → SrcV w As m news) (h1c : ∀ u ∈ news, u.oneCell' = true)
  (h63 : nn + m ≤ maxLen) (hbytes : (nn + m) * bytes ≤ 140737488355328)
  (hr : ∀ v' He', OwnS w0.heap.size e s v' (nn + m) (cs ++ news) He' → TT P ops Q n w0 HB ks rs rest (put L o.dst v') (X0 ++ He')) :
  TT P ops Q n w0 HB (7 :: ks) ((fun v' d => OwnS w0.heap.size e s v' (nn + m) (cs ++ news) d) :: rs) (o :: rest) L X :=
 fun a hf => .inr (.inr ⟨rfl, X0, He, hXp, fun Z w hZ hs => by
  have hperm : ∀ F : List Ent, (HB ++ ((X0 ++ F) ++ Z)).Perm ((HB ++ (X0 ++ Z)) ++ F) := fun F => by
   rw [List.append_assoc, List.append_assoc]
   refine List.Perm.append_left HB ?_
   rw [List.append_assoc]
   exact List.Perm.append_left X0 List.perm_append_comm
  obtain ⟨v', w', He', hrun, hown', hst⟩ := run_appendS (P := P) (t := t) (ty := o.type) (sc := sc) h1 hz hzc hs0 hown (hs.perm (hperm He)) (Nat.le_refl _) (Nat.le_refl _) hl (hsrc Z w hZ hs) h1c h63 hbytes (fun _ => rfl)
  have hrun' : (execOp a.eval o).run P w = .ok (.value v') w' := by
   simp only [execOp, ho, resolve, invoke, builtin, Sem.run_bind, Sem.run_pure, Result.andThen_ok, List.map_toArray, List.map_cons, List.map_nil, hf.eval hx, hf.eval hy, hrun]
  exact ⟨.inl ⟨v', He', w', hrun', hown', hown'.new, hst.perm (hperm He').symm⟩, hg a hf⟩, fun v' d _ hR => hr v' d hR _ (hf.put o.dst _ hi')⟩)
end
theorem lies_srcV {w : World} {g t tot m : Nat} {cs : List Value} (h : Ent.lies ⟨g, t, cs, tot⟩ w) : SrcV w (some ⟨g, 0, none⟩) m cs := .inr ⟨_, rfl, fun j u hu => by
 rw [addr_add, Nat.zero_add]; exact h.cell hu⟩
/-
 Commands in a slice of the call's own.
-/
def flatC (Cs : List CV) : List Value := Cs.flatMap cellsC
theorem cellsC_len (x : CV) : (cellsC x).length = 5 := rfl
theorem flatC_len (Cs : List CV) : (flatC Cs).length = Cs.length * 5 := by
 induction Cs with
 | nil => rfl
 | cons x l ih => unfold flatC at *; rw [List.flatMap_cons, List.length_append, ih, cellsC_len, List.length_cons]; omega
theorem flatC_app (Cs Es : List CV) : flatC (Cs ++ Es) = flatC Cs ++ flatC Es := by unfold flatC; rw [List.flatMap_append]
theorem flatC_one (x : CV) : flatC [x] = cellsC x := by unfold flatC; simp
theorem flatC_get : ∀ {Cs : List CV} {i : Nat} {x : CV} {j : Nat} {u : Value}, Cs[i]? = some x → (cellsC x)[j]? = some u → (flatC Cs)[5 * i + j]? = some u
 | [], i, x, j, u, h, _ => by simp at h
 | y :: l, 0, x, j, u, h, hu => by
  simp at h; subst h
  have hj : j < 5 := by have := (List.getElem?_eq_some_iff.1 hu).1; rw [cellsC_len] at this; exact this
  show (flatC ([y] ++ l))[5 * 0 + j]? = some u
  rw [flatC_app, flatC_one, List.getElem?_append_left (by rw [cellsC_len]; omega), Nat.mul_zero, Nat.zero_add]; exact hu
 | y :: l, i + 1, x, j, u, h, hu => by
  simp at h
  show (flatC ([y] ++ l))[5 * (i + 1) + j]? = some u
  rw [flatC_app, flatC_one, List.getElem?_append_right (by rw [cellsC_len]; omega), cellsC_len]
  have := flatC_get (Cs := l) h hu
  rw [← this]; congr 1; omega
theorem flatC_one' (Cs : List CV) : ∀ u ∈ flatC Cs, u.oneCell' = true := fun u hu => by
 unfold flatC at hu
 obtain ⟨x, _, hx⟩ := List.mem_flatMap.1 hu
 simp only [cellsC, List.mem_cons, List.not_mem_nil, or_false] at hx
 rcases hx with rfl | rfl | rfl | rfl | rfl <;> rfl
theorem OwnS.srcC {N m c : Nat} {A : Option Addr} {t : TypeId} {Cs : List CV} {He : List Ent} {w : World} (h : OwnS N t 5 (.slice A m c) m (flatC Cs) He) (hs : ∀ e ∈ He, e.lies w) : SrcC w A m Cs := by
 have hl : Cs.length = m := by have := h.1; rw [flatC_len] at this; omega
 refine ⟨hl, ?_⟩
 rcases h.2 with ⟨h1, h2, rfl⟩ | ⟨g, cap, h1, rfl, hN, hc, hm⟩
 ·exact .inl h2
 ·cases h1
  have hlie := hs _ (List.mem_singleton.2 rfl)
  refine .inr ⟨g, 0, rfl, hlie.lt, fun i x hx j u hu => ?_⟩
  rw [show 0 + 5 * i + j = 5 * i + j by omega]
  exact hlie.cell (flatC_get hx hu)
/-
 Insertion: where a command is put into a sorted list of commands.
-/
/-
 Commands that a callee has made; what the check of a delta depends on; a delta without a command, and with one twice; the chapter's example.
-/
def OwnD (N : Nat) (A : Option Addr) (m : Nat) (Es : List CV) (He : List Ent) : Prop := (∀ e ∈ He, N ≤ e.g) ∧ NumsC Es ∧ (m = 0 ∨ ∃ b off, A = some ⟨b, off, none⟩) ∧ ∀ w : World, (∀ e ∈ He, e.lies w) → SrcC w A m Es ∧ DatC w Es
theorem OwnD.mono {N N' m : Nat} {A : Option Addr} {Es : List CV} {He : List Ent} (h : OwnD N' A m Es He) (hN : N ≤ N') : OwnD N A m Es He := ⟨fun e he => Nat.le_trans hN (h.1 e he), h.2⟩
theorem OwnD.num {N m : Nat} {A : Option Addr} {Es : List CV} {He : List Ent} (h : OwnD N A m Es He) : NumsC Es := h.2.1
theorem OwnD.src {N m : Nat} {A : Option Addr} {Es : List CV} {He : List Ent} (h : OwnD N A m Es He) {w : World} (hs : ∀ e ∈ He, e.lies w) : SrcC w A m Es := (h.2.2.2 w hs).1
theorem OwnD.dat {N m : Nat} {A : Option Addr} {Es : List CV} {He : List Ent} (h : OwnD N A m Es He) {w : World} (hs : ∀ e ∈ He, e.lies w) : DatC w Es := (h.2.2.2 w hs).2
def keyE (x : CV) : (Int × Int × Int × Int × List Int) × Nat := (valC x, x.m)
def sameE (Fs Gs : List CV) : Prop := Fs.map keyE = Gs.map keyE
theorem sameE.c {Fs Gs : List CV} (h : sameE Fs Gs) : sameC Fs Gs := by
 have := congrArg (List.map Prod.fst) h
 rw [List.map_map, List.map_map] at this; exact this
theorem sameE.len {Fs Gs : List CV} (h : sameE Fs Gs) : Fs.length = Gs.length := sameC_len h.c
def fewQ (Cs : List CV) : Prop := (∀ (i : Nat) (x : CV), Cs[i]? = some x → x.m ≤ 300) ∧ Cs.length ≤ 5000
theorem NumsC.sub {Cs Es : List CV} (h : NumsC Cs) (hs : ∀ x ∈ Es, x ∈ Cs) : NumsC Es := fun i x hx => by
 obtain ⟨j, hj⟩ := List.mem_iff_getElem?.1 (hs x (List.mem_of_getElem? hx))
 exact h j x hj
theorem DatC.sub {w : World} {Cs Es : List CV} (h : DatC w Cs) (hs : ∀ x ∈ Es, x ∈ Cs) : DatC w Es := fun i x hx => by
 obtain ⟨j, hj⟩ := List.mem_iff_getElem?.1 (hs x (List.mem_of_getElem? hx))
 exact h j x hj
theorem bad2_none {N : Int} {Es : List CV} (ht : tidyT 0 N (Es.map tg)) : ∀ i, ¬ bad2 Es i := by
 rintro i ⟨x, j, y, hx, hj, hy, hm⟩
 have h2 := List.pairwise_iff_getElem.1 ht.2
 obtain ⟨hil, rfl⟩ := List.getElem?_eq_some_iff.1 hx
 obtain ⟨hjl, rfl⟩ := List.getElem?_eq_some_iff.1 hy
 have h3 := h2 j i (by simpa using hjl) (by simpa using hil) hj
 simp only [List.getElem_map] at h3
 have hpi := ht.1 (tg Es[i]) (List.mem_map.2 ⟨_, List.getElem_mem hil, rfl⟩)
 have hpj := ht.1 (tg Es[j]) (List.mem_map.2 ⟨_, List.getElem_mem hjl, rfl⟩)
 unfold okT at hpi hpj
 exact (meets_apart hpi.2.1 hpj.2.1).2 h3.symm hm
theorem valid_of {o n : Int} {Es : List CV} (h1 : okLen o n) (h2 : ∀ (i : Nat) (x : CV), Es[i]? = some x → singleV o n x = 0) (h3 : tidyT 0 n (Es.map tg)) (h4 : coverT 0 n (Es.map tg)) : faultI o n Es = (0, 0) := by
 rw [faultI_gap h1 h2 (bad2_none h3), gapI_no h4]; rfl
theorem lies_srcC {w : World} {g t tot m : Nat} {cs : List Value} {Cs : List CV} (h : Ent.lies ⟨g, t, cs, tot⟩ w) (hc : cs = flatC Cs) (hm : Cs.length = m) : SrcC w (some ⟨g, 0, none⟩) m Cs := ⟨hm, .inr ⟨g, 0, rfl, h.lt, fun i x hx j u hu => by
 subst hc
 rw [Nat.zero_add]
 exact h.cell (flatC_get hx hu)⟩⟩
/-
 Targets in ascending order, with the index of their command: the first overlap, the first gap.
-/
structure TV where
 o : Int
 l : Int
 x : Nat
instance : Inhabited TV := ⟨⟨0, 0, 0⟩⟩
def cellsT (t : TV) : List Value := [int .i64 t.o, int .i64 t.l, int .i64 t.x]
def flatT (Ts : List TV) : List Value := Ts.flatMap cellsT
theorem flatT_len (Ts : List TV) : (flatT Ts).length = Ts.length * 3 := by
 induction Ts with
 | nil => rfl
 | cons x l ih => unfold flatT at ih ⊢; rw [List.flatMap_cons, List.length_append, ih]; show 3 + _ = _; simp only [List.length_cons]; omega
theorem cellsT_len (x : TV) : (cellsT x).length = 3 := rfl
def leT (x y : TV) : Prop := x.o ≤ y.o
theorem flatT_app (Ts Es : List TV) : flatT (Ts ++ Es) = flatT Ts ++ flatT Es := by unfold flatT; rw [List.flatMap_append]
theorem flatT_one (x : TV) : flatT [x] = cellsT x := by unfold flatT; simp
theorem flatT_get : ∀ {Ts : List TV} {i : Nat} {x : TV} {j : Nat} {u : Value}, Ts[i]? = some x → (cellsT x)[j]? = some u → (flatT Ts)[3 * i + j]? = some u
 | [], i, x, j, u, h, _ => by simp at h
 | y :: l, 0, x, j, u, h, hu => by
  simp at h; subst h
  have hj : j < 3 := (List.getElem?_eq_some_iff.1 hu).1
  show (cellsT y ++ flatT l)[3 * 0 + j]? = some u
  rw [List.getElem?_append_left (by show _ < 3; omega)]
  simpa using hu
 | y :: l, i + 1, x, j, u, h, hu => by
  show (cellsT y ++ flatT l)[3 * (i + 1) + j]? = some u
  rw [List.getElem?_append_right (by show 3 ≤ _; omega)]
  show (flatT l)[3 * (i + 1) + j - 3]? = some u
  rw [show 3 * (i + 1) + j - 3 = 3 * i + j by omega]
  exact flatT_get (by simpa using h) hu
theorem flatT_one' (Ts : List TV) : ∀ u ∈ flatT Ts, u.oneCell' = true := fun u hu => by
 unfold flatT at hu
 obtain ⟨x, hx, hu⟩ := List.mem_flatMap.1 hu
 unfold cellsT at hu
 simp only [List.mem_cons, List.not_mem_nil, or_false] at hu
 rcases hu with rfl | rfl | rfl <;> rfl
def tvA : Nat → List CV → List TV
 | _, [] => []
 | i, c :: Cs => ⟨c.t, lenV c.k c.l c.m, i⟩ :: tvA (i + 1) Cs
abbrev tvOf (Cs : List CV) : List TV := tvA 0 Cs
theorem tvA_len : ∀ (i : Nat) (Cs : List CV), (tvA i Cs).length = Cs.length
 | _, [] => rfl
 | i, c :: Cs => by simp [tvA, tvA_len (i + 1) Cs]
theorem tvA_of : ∀ {i : Nat} {Cs : List CV} {t : TV}, t ∈ tvA i Cs → ∃ (j : Nat) (c : CV), Cs[j]? = some c ∧ t = ⟨c.t, lenV c.k c.l c.m, i + j⟩
 | i, c :: Cs, t, h => by
  rcases List.mem_cons.1 h with rfl | h
  ·exact ⟨0, c, rfl, rfl⟩
  ·obtain ⟨j, c', h1, h2⟩ := tvA_of h
   exact ⟨j + 1, c', by simpa using h1, by rw [h2]; congr 1; omega⟩
theorem tvA_app : ∀ (i : Nat) (Cs Es : List CV), tvA i (Cs ++ Es) = tvA i Cs ++ tvA (i + Cs.length) Es
 | i, [], Es => by simp [tvA]
 | i, c :: Cs, Es => by simp [tvA, tvA_app (i + 1) Cs Es, Nat.add_comm, Nat.add_left_comm]
def stT (Cs : List CV) (m i : Nat) : List TV := tvA 0 (Cs.take i) ++ List.replicate (m - i) ⟨0, 0, 0⟩
theorem stT_zero (Cs : List CV) (m : Nat) : stT Cs m 0 = List.replicate m ⟨0, 0, 0⟩ := by simp [stT, tvA]
theorem stT_rep (Cs : List CV) (m : Nat) : (List.replicate m [int .i64 0, int .i64 0, int .i64 0]).flatten = flatT (stT Cs m 0) := by
 rw [stT_zero]
 induction m with
 | zero => rfl
 | succ m ih => rw [List.replicate_succ, List.replicate_succ, List.flatten_cons, ih]; unfold flatT; rw [List.flatMap_cons]; rfl
theorem stT_all {Cs : List CV} {m : Nat} (hl : Cs.length = m) : stT Cs m m = tvOf Cs := by unfold stT; rw [List.take_of_length_le (by omega)]; simp
theorem stT_len {Cs : List CV} {m i : Nat} (hl : Cs.length = m) (hi : i ≤ m) : (stT Cs m i).length = m := by
 unfold stT; rw [List.length_append, tvA_len, List.length_replicate, List.length_take]; omega
theorem stT_step {Cs : List CV} {m i : Nat} {c : CV} (hl : Cs.length = m) (hc : Cs[i]? = some c) :
  (flatT (stT Cs m i)).take (3 * i) ++ cellsT ⟨c.t, lenV c.k c.l c.m, i⟩ ++ (flatT (stT Cs m i)).drop (3 * i + 3) = flatT (stT Cs m (i + 1)) := by
 have hi := (List.getElem?_eq_some_iff.1 hc).1
 have e1 : stT Cs m i = tvA 0 (Cs.take i) ++ (⟨0, 0, 0⟩ :: List.replicate (m - (i + 1)) ⟨0, 0, 0⟩) := by
  unfold stT; rw [show m - i = (m - (i + 1)) + 1 by omega, List.replicate_succ]
 have e2 : stT Cs m (i + 1) = tvA 0 (Cs.take i) ++ (⟨c.t, lenV c.k c.l c.m, i⟩ :: List.replicate (m - (i + 1)) ⟨0, 0, 0⟩) := by
  unfold stT
  rw [List.take_add_one, hc, Option.toList_some, tvA_app, List.append_assoc]
  congr 1
  simp only [tvA, List.length_take, Nat.zero_add, List.cons_append, List.nil_append]
  rw [show min i Cs.length = i by omega]
 have h3 : (flatT (tvA 0 (Cs.take i))).length = 3 * i := by rw [flatT_len, tvA_len, List.length_take]; omega
 rw [e1, e2, flatT_app, flatT_app]
 have h4 : ∀ (z : TV) (R : List TV), flatT (z :: R) = cellsT z ++ flatT R := fun z R => by unfold flatT; rw [List.flatMap_cons]
 rw [h4, h4]
 rw [List.take_left' h3, List.append_assoc]
 congr 1
 congr 1
 rw [← List.drop_drop, List.drop_left' h3]
 rfl
def pr (t : TV) : Int × Int := (t.o, t.l)
theorem tvA_pr : ∀ (i : Nat) (Cs : List CV), (tvA i Cs).map pr = Cs.map tg
 | _, [] => rfl
 | i, c :: Cs => by simp [tvA, tvA_pr (i + 1) Cs, pr, tg]
def upT (i : Int) (t : TV) : Bool := decide ((t.x : Int) ≤ i)
def upF (Ts : List TV) (i : Int) : List (Int × Int) := (Ts.filter (upT i)).map pr
theorem filter_tvA : ∀ (i : Nat) (Cs : List CV) (q : Nat), (tvA i Cs).filter (upT ((i + q : Nat) : Int)) = tvA i (Cs.take (q + 1))
 | _, [], _ => by simp [tvA]
 | i, c :: Cs, 0 => by
  have h : ∀ (k : Nat) (Cs : List CV), i < k → (tvA k Cs).filter (upT ((i : Nat) : Int)) = [] := fun k Cs => by
   induction Cs generalizing k with
   | nil => intro _; rfl
   | cons c Cs ih => intro hk; simp only [tvA, List.filter_cons]; rw [if_neg (by unfold upT; simp; omega)]; exact ih (k + 1) (by omega)
  simp only [tvA, List.filter_cons, Nat.add_zero, List.take_succ_cons, List.take_zero]
  rw [if_pos (by unfold upT; simp), h (i + 1) Cs (by omega)]
 | i, c :: Cs, q + 1 => by
  have := filter_tvA (i + 1) Cs q
  simp only [tvA, List.filter_cons, List.take_succ_cons]
  rw [if_pos (by unfold upT; simp; omega), ← this, show i + 1 + q = i + (q + 1) by omega]
def endF (F : List (Int × Int)) : Nat → Int
 | 0 => 0
 | i + 1 => match F[i]? with
  | some p => p.1 + p.2
  | none => 0
theorem endF_succ {F : List (Int × Int)} {i : Nat} {p : Int × Int} (h : F[i]? = some p) : endF F (i + 1) = p.1 + p.2 := by simp [endF, h]
def ovF (F : List (Int × Int)) : Prop := ∃ i p, F[i]? = some p ∧ p.1 < endF F i
open Classical in
noncomputable instance (F : List (Int × Int)) : Decidable (ovF F) := Classical.propDecidable _
def gapR (F : List (Int × Int)) (g : Int) : Prop := ∃ k, k ≤ F.length ∧ g = endF F k ∧ (∀ j p, j < k → F[j]? = some p → p.1 ≤ endF F j) ∧ (k = F.length ∨ ∃ p, F[k]? = some p ∧ endF F k < p.1)
def srtF (F : List (Int × Int)) : Prop := F.Pairwise (fun p q => p.1 ≤ q.1)
def posF (F : List (Int × Int)) : Prop := ∀ p ∈ F, 0 ≤ p.1 ∧ 1 ≤ p.2
theorem no_ov {F : List (Int × Int)} (hp : posF F) (h : ¬ ovF F) : ∀ (j : Nat) (q : Int × Int), F[j]? = some q → ∀ (i : Nat) (p : Int × Int), i < j → F[i]? = some p → p.1 + p.2 ≤ q.1
 | j + 1, q, hq, i, p, hij, hpi => by
  have h1 : endF F (j + 1) ≤ q.1 := Classical.byContradiction fun hc => h ⟨j + 1, q, hq, by omega⟩
  have hj : j < F.length := by have := (List.getElem?_eq_some_iff.1 hq).1; omega
  have hr : F[j]? = some F[j] := List.getElem?_eq_getElem hj
  rw [endF_succ hr] at h1
  by_cases e : i = j
  ·subst e; rw [hr] at hpi; cases hpi; exact h1
  ·have h2 := no_ov hp h j _ hr i p (by omega) hpi
   have h3 := hp _ (List.getElem_mem hj)
   omega
theorem ov_iff {F : List (Int × Int)} (hp : posF F) (hs : srtF F) : ovF F ↔ ¬ F.Pairwise apartT := by
 constructor
 ·rintro ⟨i, q, hq, hlt⟩ ha
  have hqp := hp q (List.mem_of_getElem? hq)
  match i with
  | 0 => simp [endF] at hlt; omega
  | i + 1 =>
   obtain ⟨hi1, rfl⟩ := List.getElem?_eq_some_iff.1 hq
   have hr : F[i]? = some F[i] := List.getElem?_eq_getElem (by omega)
   rw [endF_succ hr] at hlt
   have h1 := List.pairwise_iff_getElem.1 ha i (i + 1) (by omega) hi1 (by omega)
   have h2 := List.pairwise_iff_getElem.1 hs i (i + 1) (by omega) hi1 (by omega)
   have h3 := hp F[i] (List.getElem_mem _)
   unfold apartT at h1
   omega
 ·intro ha
  apply Classical.byContradiction
  intro hn
  refine ha (List.pairwise_iff_getElem.2 fun i j hi hj hij => .inl ?_)
  exact no_ov hp hn j _ (List.getElem?_eq_getElem hj) i _ hij (List.getElem?_eq_getElem hi)
theorem gap_facts {F : List (Int × Int)} {g : Int} (hp : posF F) (hs : srtF F) (hg : gapR F g) : 0 ≤ g ∧ freeT F g ∨ ovF F := by
 by_cases hov : ovF F
 ·exact .inr hov
 ·left
  obtain ⟨k, hk, rfl, h1, h2⟩ := hg
  have h0 : 0 ≤ endF F k := by
   match k with
   | 0 => exact Int.le_refl _
   | k + 1 =>
    have hr : F[k]? = some F[k] := List.getElem?_eq_getElem (by omega)
    rw [endF_succ hr]
    have := hp F[k] (List.getElem_mem _)
    omega
  refine ⟨h0, fun p hpm hb => ?_⟩
  obtain ⟨j, hj⟩ := List.mem_iff_getElem?.1 hpm
  unfold hasB at hb
  by_cases hjk : j < k
  ·match k, hk with
   | k + 1, hk =>
    have hr : F[k]? = some F[k] := List.getElem?_eq_getElem (by omega)
    rw [endF_succ hr] at hb
    by_cases e : j = k
    ·subst e; rw [hr] at hj; cases hj; omega
    ·have := no_ov hp hov k _ hr j p (by omega) hj
     have := hp F[k] (List.getElem_mem _)
     omega
  ·rcases h2 with h2 | ⟨q, hq, hlt⟩
   ·have := (List.getElem?_eq_some_iff.1 hj).1; omega
   ·by_cases e : j = k
    ·subst e; rw [hq] at hj; cases hj; omega
    ·obtain ⟨hj1, rfl⟩ := List.getElem?_eq_some_iff.1 hj
     obtain ⟨hk1, rfl⟩ := List.getElem?_eq_some_iff.1 hq
     have := List.pairwise_iff_getElem.1 hs k j hk1 hj1 (by omega)
     omega
theorem gap_below {F : List (Int × Int)} : ∀ (k : Nat), k ≤ F.length → (∀ j p, j < k → F[j]? = some p → p.1 ≤ endF F j) → ∀ x, 0 ≤ x → x < endF F k → ∃ p ∈ F, hasB p x
 | 0, _, _, x, h0, h1 => by simp [endF] at h1; omega
 | k + 1, hk, h, x, h0, h1 => by
  have hr : F[k]? = some F[k] := List.getElem?_eq_getElem (by omega)
  rw [endF_succ hr] at h1
  by_cases hx : F[k].1 ≤ x
  ·exact ⟨F[k], List.getElem_mem _, hx, h1⟩
  ·have h2 := h k _ (by omega) hr
   exact gap_below k (by omega) (fun j p hj hp => h j p (by omega) hp) x h0 (by omega)
theorem gap_least {F : List (Int × Int)} {g N : Int} (hp : posF F) (hs : srtF F) (hn : ¬ ovF F) (hg : gapR F g) (hN : g < N) : leastT N F g := by
 obtain ⟨h0, hf⟩ := (gap_facts hp hs hg).resolve_right hn
 obtain ⟨k, hk, rfl, h1, h2⟩ := hg
 exact ⟨h0, hN, hf, fun x hx hxg hfx => by
  obtain ⟨p, hpm, hb⟩ := gap_below k hk h1 x hx hxg
  exact hfx p hpm hb⟩
theorem gap_covers {F : List (Int × Int)} {g N : Int} (hg : gapR F g) (hN : N ≤ g) : coverT 0 N F := fun x h0 hx => by
 obtain ⟨k, hk, rfl, h1, h2⟩ := hg
 exact gap_below k hk h1 x h0 (by omega)
theorem endF_bd {F : List (Int × Int)} {n : Int} (hp : posF F) (hn : ∀ p ∈ F, p.1 + p.2 ≤ n) (h0 : 0 ≤ n) : ∀ k, 0 ≤ endF F k ∧ endF F k ≤ n
 | 0 => ⟨Int.le_refl _, h0⟩
 | k + 1 => by
  cases h : F[k]? with
  | none =>
   have e : endF F (k + 1) = 0 := by simp [endF, h]
   rw [e]; exact ⟨Int.le_refl _, h0⟩
  | some p =>
   have h1 := hp p (List.mem_of_getElem? h)
   have h2 := hn p (List.mem_of_getElem? h)
   rw [endF_succ h]
   omega
structure AscT (o n : Int) (Cs : List CV) (Ts : List TV) : Prop where
 perm : Ts.Perm (tvOf Cs)
 srt : Ts.Pairwise leT
 ok : okLen o n
 single : ∀ (i : Nat) (x : CV), Cs[i]? = some x → singleV o n x = 0
section
variable {o n : Int} {Cs : List CV} {Ts : List TV}
theorem AscT.len (h : AscT o n Cs Ts) : Ts.length = Cs.length := by rw [h.perm.length_eq, tvA_len]
theorem AscT.num (h : AscT o n Cs Ts) {t : TV} (ht : t ∈ Ts) : 0 ≤ t.o ∧ 1 ≤ t.l ∧ t.o + t.l ≤ n ∧ n ≤ 4611686018427387903 ∧ t.x < Cs.length := by
 obtain ⟨j, c, hj, rfl⟩ := tvA_of (h.perm.mem_iff.1 ht)
 obtain ⟨h1, h2, h3, _⟩ := single_vld (h.single j c hj)
 have h4 := h.ok
 have h5 := (List.getElem?_eq_some_iff.1 hj).1
 unfold vld at h1
 unfold okLen at h4
 dsimp only
 omega
theorem AscT.nums (h : AscT o n Cs Ts) (hm : Cs.length ≤ 1000000000) : ∀ t ∈ Ts, (-9223372036854775808 ≤ t.o ∧ t.o ≤ 9223372036854775807) ∧ (-9223372036854775808 ≤ t.l ∧ t.l ≤ 9223372036854775807) ∧ t.x ≤ 9223372036854775807 := fun t ht => by
 have := h.num ht; omega
theorem AscT.n0 (h : AscT o n Cs Ts) : 0 ≤ n ∧ n ≤ 4611686018427387903 := by have := h.ok; unfold okLen at this; omega
theorem AscT.pos (h : AscT o n Cs Ts) (i : Int) : posF (upF Ts i) := fun p hp => by
 obtain ⟨t, ht, rfl⟩ := List.mem_map.1 hp
 have := h.num (List.mem_filter.1 ht).1
 unfold pr; dsimp only; omega
theorem AscT.ends (h : AscT o n Cs Ts) (i : Int) : ∀ p ∈ upF Ts i, p.1 + p.2 ≤ n := fun p hp => by
 obtain ⟨t, ht, rfl⟩ := List.mem_map.1 hp
 have := h.num (List.mem_filter.1 ht).1
 unfold pr; dsimp only; omega
theorem AscT.srtd (h : AscT o n Cs Ts) (i : Int) : srtF (upF Ts i) := by
 unfold srtF upF
 rw [List.pairwise_map]
 exact h.srt.sublist List.filter_sublist
theorem AscT.upPerm (h : AscT o n Cs Ts) (i : Nat) : (upF Ts (i : Int)).Perm ((Cs.take (i + 1)).map tg) := by
 unfold upF
 have h1 := (h.perm.filter (upT (i : Int))).map pr
 have h2 := filter_tvA 0 Cs i
 rw [Nat.zero_add] at h2
 rw [h2, tvA_pr] at h1
 exact h1
theorem bad2_iff (h1 : ∀ (i : Nat) (x : CV), Cs[i]? = some x → singleV o n x = 0) (i : Nat) : (∃ i', i' ≤ i ∧ bad2 Cs i') ↔ ¬ ((Cs.take (i + 1)).map tg).Pairwise apartT := by
 have pos : ∀ {j : Nat} {x : CV}, Cs[j]? = some x → 1 ≤ (tg x).2 := fun hx => (single_vld (h1 _ _ hx)).2.1
 constructor
 ·rintro ⟨i', hi, x, j, y, hx, hj, hy, hm⟩ hp
  have hx' : ((Cs.take (i + 1)).map tg)[i']? = some (tg x) := by rw [List.getElem?_map, List.getElem?_take, if_pos (by omega), hx]; rfl
  have hy' : ((Cs.take (i + 1)).map tg)[j]? = some (tg y) := by rw [List.getElem?_map, List.getElem?_take, if_pos (by omega), hy]; rfl
  obtain ⟨a1, a2⟩ := List.getElem?_eq_some_iff.1 hx'
  obtain ⟨b1, b2⟩ := List.getElem?_eq_some_iff.1 hy'
  have := List.pairwise_iff_getElem.1 hp j i' b1 a1 hj
  rw [a2, b2] at this
  exact (meets_apart (pos hx) (pos hy)).2 this.symm hm
 ·intro hn
  apply Classical.byContradiction
  intro hno
  refine hn (List.pairwise_iff_getElem.2 fun j i' hj hi' hlt => ?_)
  simp only [List.length_map, List.length_take] at hj hi'
  simp only [List.getElem_map, List.getElem_take]
  have hx : Cs[i']? = some Cs[i'] := List.getElem?_eq_getElem (by omega)
  have hy : Cs[j]? = some Cs[j] := List.getElem?_eq_getElem (by omega)
  exact ((meets_apart (pos hx) (pos hy)).1 fun hm => hno ⟨i', by omega, _, j, _, hx, hlt, hy, hm⟩).symm
theorem AscT.ov (h : AscT o n Cs Ts) (i : Nat) : ovF (upF Ts (i : Int)) ↔ ∃ i', i' ≤ i ∧ bad2 Cs i' := by
 rw [ov_iff (h.pos _) (h.srtd _), bad2_iff h.single]
 have hp := h.upPerm i
 constructor
 ·exact fun h1 h2 => h1 (h2.perm hp.symm apartT.symm)
 ·exact fun h1 h2 => h1 (h2.perm hp apartT.symm)
theorem AscT.mono (h : AscT o n Cs Ts) {a b : Nat} (hab : a ≤ b) (ha : ovF (upF Ts (a : Int))) : ovF (upF Ts (b : Int)) := by
 rw [h.ov] at ha ⊢
 obtain ⟨i', h1, h2⟩ := ha
 exact ⟨i', by omega, h2⟩
theorem AscT.over (h : AscT o n Cs Ts) {k : Nat} (hk : ovF (upF Ts (k : Int))) (hb : ∀ j : Nat, j < k → ¬ ovF (upF Ts (j : Int))) : faultI o n Cs = (4, (k : Int)) := by
 obtain ⟨i', hi, hbad⟩ := (h.ov k).1 hk
 have e : i' = k := by
  apply Classical.byContradiction
  intro hne
  exact hb i' (by omega) ((h.ov i').2 ⟨i', Nat.le_refl _, hbad⟩)
 subst e
 obtain ⟨x, j, y, hx, hj, hy, hm⟩ := hbad
 exact faultI_over h.ok h.single hx hj hy hm fun q hq hbq => hb q hq ((h.ov q).2 ⟨q, Nat.le_refl _, hbq⟩)
theorem AscT.noBad (h : AscT o n Cs Ts) {m : Nat} (hm : Cs.length = m) (hb : ∀ j : Nat, j < m → ¬ ovF (upF Ts (j : Int))) : ∀ i, ¬ bad2 Cs i :=
 bad2_all (m := m) (by omega) fun i' hi' hbad => hb i' hi' ((h.ov i').2 ⟨i', Nat.le_refl _, hbad⟩)
theorem AscT.all (h : AscT o n Cs Ts) {m : Nat} (hm : Cs.length = m) : (upF Ts (m : Int)).Perm (Cs.map tg) := by
 have := h.upPerm m
 rwa [List.take_of_length_le (by omega)] at this
theorem AscT.noOv (h : AscT o n Cs Ts) {m : Nat} (hm : Cs.length = m) (hb : ∀ j : Nat, j < m → ¬ ovF (upF Ts (j : Int))) : ¬ ovF (upF Ts (m : Int)) := fun hov => by
 obtain ⟨i', _, hbad⟩ := (h.ov m).1 hov
 exact h.noBad hm hb i' hbad
theorem AscT.gap (h : AscT o n Cs Ts) {m : Nat} {g : Int} (hm : Cs.length = m) (hb : ∀ j : Nat, j < m → ¬ ovF (upF Ts (j : Int))) (hg : gapR (upF Ts (m : Int)) g) (hN : g < n) : faultI o n Cs = (3, g) := by
 have hl := gap_least (h.pos _) (h.srtd _) (h.noOv hm hb) hg hN
 have hp := h.all hm
 have hl2 : leastT n (Cs.map tg) g := ⟨hl.1, hl.2.1, hl.2.2.1.perm hp, fun x hx hxg hf => hl.2.2.2 x hx hxg (hf.perm hp.symm)⟩
 rw [faultI_gap h.ok h.single (h.noBad hm hb), gapI_is hl2, if_pos hl.1]
theorem AscT.none (h : AscT o n Cs Ts) {m : Nat} {g : Int} (hm : Cs.length = m) (hb : ∀ j : Nat, j < m → ¬ ovF (upF Ts (j : Int))) (hg : gapR (upF Ts (m : Int)) g) (hN : ¬ g < n) : faultI o n Cs = (0, 0) := by
 have hc := (gap_covers (N := n) hg (by omega)).perm (h.all hm)
 rw [faultI_gap h.ok h.single (h.noBad hm hb), gapI_no hc, if_neg (by omega)]
end
def cntT (Ts : List TV) (i : Int) (k : Nat) : Nat := ((Ts.take k).filter (upT i)).length
theorem cntT_yes {Ts : List TV} {i : Int} {k : Nat} {t : TV} (ht : Ts[k]? = some t) (h : (t.x : Int) ≤ i) : cntT Ts i (k + 1) = cntT Ts i k + 1 ∧ (upF Ts i)[cntT Ts i k]? = some (pr t) := by
 have hb : upT i t = true := by unfold upT; simpa using h
 have hk := (List.getElem?_eq_some_iff.1 ht).1
 constructor
 ·unfold cntT
  rw [List.take_add_one, ht, Option.toList_some, List.filter_append]
  simp [hb]
 ·unfold upF cntT
  have e : Ts.filter (upT i) = (Ts.take k).filter (upT i) ++ (t :: (Ts.drop (k + 1)).filter (upT i)) := by
   conv => lhs; rw [← List.take_append_drop k Ts]
   rw [List.filter_append, List.drop_eq_getElem_cons hk, List.filter_cons]
   have : Ts[k] = t := (List.getElem?_eq_some_iff.1 ht).2
   rw [this, if_pos hb]
  rw [List.getElem?_map, e, List.getElem?_append_right (Nat.le_refl _), Nat.sub_self]
  rfl
theorem cntT_no {Ts : List TV} {i : Int} {k : Nat} {t : TV} (ht : Ts[k]? = some t) (h : ¬ (t.x : Int) ≤ i) : cntT Ts i (k + 1) = cntT Ts i k := by
 have hb : upT i t = false := by unfold upT; simpa using h
 unfold cntT
 rw [List.take_add_one, ht, Option.toList_some, List.filter_append]
 simp [hb]
theorem cntT_all {Ts : List TV} {i : Int} {m : Nat} (hm : Ts.length = m) : cntT Ts i m = (upF Ts i).length := by
 unfold cntT upF
 rw [List.take_of_length_le (by omega), List.length_map]
theorem cntT_lt {Ts : List TV} {i : Int} {k : Nat} {t : TV} (ht : Ts[k]? = some t) (h : (t.x : Int) ≤ i) : cntT Ts i k < (upF Ts i).length := (List.getElem?_eq_some_iff.1 (cntT_yes ht h).2).1
def RowsT (w : World) (b off : Nat) (Ts : List TV) : Prop := ∀ (i : Nat) (x : TV), Ts[i]? = some x → ∀ j u, (cellsT x)[j]? = some u → w.cell? ⟨b, off + 3 * i + j, none⟩ = some u
theorem lies_rowsT {w : World} {g t tot : Nat} {Ts : List TV} (h : Ent.lies ⟨g, t, flatT Ts, tot⟩ w) : RowsT w g 0 Ts := fun i x hx j u hu => by
 have := h.cell (o := 3 * i + j) (flatT_get hx hu)
 rw [show 0 + 3 * i + j = 3 * i + j by omega]
 exact this
theorem RowsT.of_block {w w' : World} {b off : Nat} {Ts : List TV} (h : RowsT w b off Ts) (hb : w'.heap[b]? = w.heap[b]?) : RowsT w' b off Ts := fun i x hx j u hu => (World.cell?_of_block (w := w) hb).trans (h i x hx j u hu)
/-
 The iterator over targets: what it has captured, what a round of it leaves.
-/
theorem TE.retC1 {P : Program} {n : Sz} {w0 : World} {L : List (Nat × Value)} {H : List Ent} {fn : Func} {R : Ending → World → Prop} {i g off : Nat} {t : TypeId} {v : Value} {ex : Exit} (hres : fn.results = #[.cell i t]) (hag : (isAgg t).run P = fun w => .ok false w)
  (hx : look L i = some (.pointer (some ⟨g, off, none⟩))) (hc : At w0 H ⟨g, off, none⟩ v) (h : ∀ w, St w0 H w → R (.returned v) w) (hex : ex = .ret ∨ ex = .normal) (hds : n.ds = [] := by rfl) : TE (bodyPost P fn R) ex n w0 L H := fun a w hf hs => by
 have h1 : (a.tmps.getD i undef) = .pointer (some ⟨g, off, none⟩) := by simp [Array.getD_eq_getD_getElem?, hf.2.2 i _ hx]
 have key : a.defers = [] ∧ ∃ v, (results fn a.tmps).run P w = .ok v w ∧ R (.returned v) w := by
  refine ⟨hf.1.trans hds, v, ?_, h w hs⟩
  simp only [results, hres]
  simp [Sem.run_bind, loadVar, hag]
  simp only [Array.getD_eq_getD_getElem?] at h1
  simp [h1, asAddr, load, Sem.run, hc w hs]
 rcases hex with rfl | rfl
 ·exact key
 ·exact key
structure CapT (w : World) (b1 b2 g m : Nat) (Ts : List TV) (q : Int) : Prop where
 s : w.cell? ⟨b1, 0, none⟩ = some (.slice (some ⟨g, 0, none⟩) m m)
 x : w.cell? ⟨b2, 0, none⟩ = some (.int .i64 q)
 r : RowsT w g 0 Ts
 l : Ts.length = m
 h1 : b1 < w.heap.size
 h2 : b2 < w.heap.size
 h3 : g < w.heap.size
def capK (b1 b2 g : Nat) (k : Nat) : Prop := k = b1 ∨ k = b2 ∨ k = g
section
variable {P : Program} {w0 v w w' W : World} {b1 b2 g m : Nat} {Ts : List TV} {q : Int} {H : List Ent}
theorem CapT.lt (h : CapT w b1 b2 g m Ts q) {k : Nat} (hk : capK b1 b2 g k) : k < w.heap.size := by
 rcases hk with rfl | rfl | rfl
 ·exact h.h1
 ·exact h.h2
 ·exact h.h3
theorem CapT.row (h : CapT w b1 b2 g m Ts q) {k : Nat} {x : TV} (hx : Ts[k]? = some x) {j : Nat} {u : Value} (hu : (cellsT x)[j]? = some u) : w.cell? ⟨g, 3 * k + j, none⟩ = some u := by
 have := h.r k x hx j u hu
 rw [Nat.zero_add] at this; exact this
theorem CapT.keep (h : CapT w b1 b2 g m Ts q) (hk : ∀ k, capK b1 b2 g k → w'.heap[k]? = w.heap[k]?) (hsz : w.heap.size ≤ w'.heap.size) : CapT w' b1 b2 g m Ts q :=
 ⟨(World.cell?_of_block (w := w) (hk b1 (.inl rfl))).trans h.s, (World.cell?_of_block (w := w) (hk b2 (.inr (.inl rfl)))).trans h.x, h.r.of_block (hk g (.inr (.inr rfl))), h.l, Nat.lt_of_lt_of_le h.h1 hsz, Nat.lt_of_lt_of_le h.h2 hsz, Nat.lt_of_lt_of_le h.h3 hsz⟩
theorem CapT.keepL (h : CapT w b1 b2 g m Ts q) (hk : ∀ k, capK b1 b2 g k → w'.heap[k]? = w.heap[k]?) (hl : ∀ k, capK b1 b2 g k → k < w'.heap.size) : CapT w' b1 b2 g m Ts q :=
 ⟨(World.cell?_of_block (w := w) (hk b1 (.inl rfl))).trans h.s, (World.cell?_of_block (w := w) (hk b2 (.inr (.inl rfl)))).trans h.x, h.r.of_block (hk g (.inr (.inr rfl))), h.l, hl _ (.inl rfl), hl _ (.inr (.inl rfl)), hl _ (.inr (.inr rfl))⟩
theorem CapT.at_ (h : CapT w0 b1 b2 g m Ts q) (hs : St w0 H w) (hne : ∀ b, b < w0.heap.size → ∀ e ∈ H, e.g ≠ b) : CapT w b1 b2 g m Ts q :=
 h.keep (fun k hk => hs.old k (h.lt hk) (hne k (h.lt hk))) hs.size
theorem St.beside0 {lo : Nat} (h : St v H w) (hn : ∀ e ∈ H, v.heap.size ≤ e.g) : Beside lo (lo + 0) v w :=
 ⟨h.os, h.tape, h.output, h.size, fun k hk _ => h.old k hk (fun e he => by have := hn e he; omega)⟩
def eP (F : List (Int × Int)) (i : Nat) : Int × Int := F.getD i (0, 0)
theorem eP_of {F : List (Int × Int)} {i : Nat} {p : Int × Int} (h : F[i]? = some p) : eP F i = p := by unfold eP; rw [List.getD_eq_getElem?_getD, h]; rfl
theorem eP_at {F : List (Int × Int)} {i : Nat} (h : i < F.length) : F[i]? = some (eP F i) := by
 have h1 : F[i]? = some F[i] := List.getElem?_eq_getElem h
 rw [eP_of h1]; exact h1
def encP (F : List (Int × Int)) (i : Nat) : Value := .agg #[.int .i64 (eP F i).1, .int .i64 (eP F i).2]
theorem up_yield {l : Nat} {J Jx : Nat → World → Prop} {F : List (Int × Int)} {N cn : Nat} {p : Int × Int}
  (hJ : ∀ s A B, J s A → Beside W.heap.size (W.heap.size + 0) A B → J s B)
  (hY : ∀ i W1, i < N → J i W1 → W.heap.size + 0 ≤ W1.heap.size → YieldAt Fence.wide (2 - 1) P l #[encP F i] W1 fun e W' =>
   (e = .returned (.bool true) ∧ J (i + 1) W' ∧ Holds (fun k => (W.heap.size ≤ k ∧ k < W.heap.size + 0) ∨ capK b1 b2 g k) W1 W' ∧ W.heap.size + 0 ≤ W'.heap.size) ∨ (e = .returned (.bool false) ∧ Jx (i + 1) W'))
  (hN : cn < N) (hp : F[cn]? = some p) (hj : J cn v) (hc : CapT v b1 b2 g m Ts q) (hsz : W.heap.size ≤ v.heap.size) (hs : St v H w) (hn : ∀ e ∈ H, v.heap.size ≤ e.g) :
  YieldAt Fence.wide 1 P l #[.agg #[.int .i64 p.1, .int .i64 p.2]] w fun e w' => (e = .returned (.bool true) ∧ (J (cn + 1) w' ∧ CapT w' b1 b2 g m Ts q ∧ W.heap.size ≤ w'.heap.size)) ∨ (e = .returned (.bool false) ∧ Jx (cn + 1) w') := by
 have hb := St.beside0 (lo := W.heap.size) hs hn
 have hsw := hs.size
 obtain ⟨fn, tmps, assign, body, h1, h2⟩ := hY cn w hN (hJ _ _ _ hj hb) (by omega)
 have he : encP F cn = .agg #[.int .i64 p.1, .int .i64 p.2] := by unfold encP; rw [eP_of hp]
 rw [he] at h1
 have hcw : CapT w b1 b2 g m Ts q := hc.keep (fun k hk => hs.old k (hc.lt hk) (fun e he => by have := hn e he; have := hc.lt hk; omega)) hsw
 refine ⟨fn, tmps, assign, body, h1, h2.mono ?_⟩
 rintro e w' (⟨he, hj', hk, hz⟩ | ⟨he, hx⟩)
 ·exact .inl ⟨he, hj', hcw.keepL (fun k hk' => hk k (.inr hk') (hcw.lt hk')) (fun k hk' => hk.lt (.inr hk') (hcw.lt hk')), by omega⟩
 ·exact .inr ⟨he, hx⟩
theorem lies_call {e : Ent} (h : e.lies w) (hW : St w [] W) : e.lies W := h.of_block (hW.old _ h.lt (by simp))
theorem capT_of {t1 t2 : TypeId} (h1 : Ent.lies ⟨b1, t1, [.slice (some ⟨g, 0, none⟩) m m], 1⟩ w) (h2 : Ent.lies ⟨b2, t2, [.int .i64 q], 1⟩ w) (hr : RowsT w g 0 Ts) (hl : Ts.length = m) (hg : g < w.heap.size) : CapT w b1 b2 g m Ts q :=
 ⟨h1.cell rfl, h2.cell rfl, hr, hl, h1.lt, h2.lt, hg⟩
theorem nov_succ {F : List (Int × Int)} {i : Nat} {p : Int × Int} (h : ∀ j r, j < i → F[j]? = some r → endF F j ≤ r.1) (hp : F[i]? = some p) (hn : ¬ p.1 < endF F i) : ∀ j r, j < i + 1 → F[j]? = some r → endF F j ≤ r.1 := fun j r hj hr => by
 by_cases e : j = i
 ·subst e; rw [hp] at hr; cases hr; omega
 ·exact h j r (by omega) hr
theorem ngap_succ {F : List (Int × Int)} {i : Nat} {p : Int × Int} (h : ∀ j r, j < i → F[j]? = some r → r.1 ≤ endF F j) (hp : F[i]? = some p) (hn : ¬ endF F i < p.1) : ∀ j r, j < i + 1 → F[j]? = some r → r.1 ≤ endF F j := fun j r hj hr => by
 by_cases e : j = i
 ·subst e; rw [hp] at hr; cases hr; omega
 ·exact h j r (by omega) hr
theorem nov_end {F : List (Int × Int)} (h : ∀ j r, j < F.length → F[j]? = some r → endF F j ≤ r.1) : ¬ ovF F := by
 rintro ⟨i, p, hp, hlt⟩
 have := h i p (List.getElem?_eq_some_iff.1 hp).1 hp
 omega
noncomputable def lowI (p : Nat → Prop) (m : Nat) : Nat := match firstF (fun i => i < m ∧ p i) with
 | some i => i
 | none => m
theorem lowI_spec (p : Nat → Prop) (m : Nat) : (lowI p m < m ∧ p (lowI p m) ∨ lowI p m = m) ∧ ∀ j, j < lowI p m → j < m → ¬ p j := by
 unfold lowI
 cases h : firstF (fun i => i < m ∧ p i) with
 | some i =>
  have ⟨h1, h2⟩ := firstF_spec h
  exact ⟨.inl h1, fun j hj hjm hp => h2 j hj ⟨hjm, hp⟩⟩
 | none => exact ⟨.inr rfl, fun j hj hjm hp => firstF_nope h j ⟨hjm, hp⟩⟩
theorem lowI_is {p : Nat → Prop} {m k : Nat} (hk : k ≤ m) (h1 : ∀ j, j < k → ¬ p j) (h2 : k = m ∨ p k) : lowI p m = k := by
 obtain ⟨a, b⟩ := lowI_spec p m
 have c1 : ¬ k < lowI p m := fun hlt => by
  rcases h2 with h2 | h2
  ·rcases a with a | a <;> omega
  ·rcases a with a | a
   ·exact b k hlt (by omega) h2
   ·exact b k hlt (by omega) h2
 have c2 : ¬ lowI p m < k := fun hlt => by
  rcases a with a | a
  ·exact h1 _ hlt a.2
  ·omega
 omega
end
/-
 Contracts of Clone, Grow and Concat.
-/
theorem enters116 : Enters Tryz.prog 116 := ⟨_, Tryz.func116, by kernel_rfl, by kernel_rfl⟩
theorem enters97 : Enters Tryz.prog 97 := ⟨_, Tryz.func97, by kernel_rfl, by kernel_rfl⟩
instance : Sli Tryz.prog 65 22 := ⟨Tryz.underlying65⟩
theorem bclone_c (M : List Int) (ad : Addr) (m c : Nat) (w : World) (hsM : Src w (some ad) m .u8 M) (hmc : m ≤ c) (hm : m ≤ 140737488355328) : Calls Tryz.prog 97 #[.slice (some ad) m c] w fun e w' => ∃ g c', e = .returned (.slice (some ⟨g, 0, none⟩) m c') ∧ w.heap.size ≤ g ∧ m ≤ c' ∧ c' ≤ maxLen ∧ St w [⟨g, 5, (M).map (int .u8), c'⟩] w' := by
 refine qP (args := [.slice (some ad) m c]) Tryz.func97 rfl Tryz.ntmps97 (by simp) ?_
 refine qC [0] ?_
 iterate 9 refine gx ?_
 refine qB (qA rfl) rfl (Gets.sliceNil (A := some ad) rfl Tryz.underlying22 rfl rfl) ?_
 iterate 2 refine gx ?_
 refine ql rfl ?_
 iterate 4 refine gx ?_
 refine TL.emptySlice (qA rfl) rfl rfl Tryz.underlying22 size5 (fun g1 hg1 => ?_)
 refine gx ?_
 refine zM (H := []) (He := [⟨g1, 5, ([] : List Int).map (int .u8), 0⟩]) (qA rfl) rfl rfl Tryz.underlying22 mk5 rfl rfl rfl (W := []) (B := M) (.inr ⟨g1, 0, rfl, rfl, hg1, Nat.le_refl _, by unfold maxLen; omega⟩) (fun w hs => hsM.at_ hs (fun b hb => qY qF (qD (by show g1 ≠ b; omega) qF))) (by simp only [List.length_nil]; omega) (by simp only [List.length_nil]; omega) (fun vo Ho ho hne => ?_)
 rw [List.nil_append] at ho
 obtain ⟨gs, cs, rfl, rfl, hgs, hcs, hms⟩ := own_some ho (hne (by intro h; cases h))
 have hls := hsM.1
 rw [hls] at hcs ⊢
 iterate 4 refine gx ?_
 exact qN rfl rfl (fun w hs => ⟨gs, cs, rfl, hgs, hcs, hms, hs⟩)
theorem bclone_nil (m c : Nat) (w : World) : Calls Tryz.prog 97 #[.slice none m c] w fun e w' => e = .returned (.slice none 0 0) ∧ St w [] w' := by
 refine qP (args := [.slice none m c]) Tryz.func97 rfl Tryz.ntmps97 (by simp) ?_
 refine qC [0] ?_
 iterate 9 refine gx ?_
 refine qB (qA rfl) rfl (Gets.sliceNil (A := none) rfl Tryz.underlying22 rfl rfl) ?_
 iterate 2 refine gx ?_
 refine qq rfl ?_
 iterate 7 refine gx ?_
 exact qN rfl rfl (fun w hs => ⟨rfl, hs⟩)
theorem clone_nil (k t f l : Int) (m c : Nat) (w : World) : Calls Tryz.prog 68 #[.agg ([int .i64 k, int .i64 t, int .i64 f, int .i64 l, slice none m c]).toArray] w fun e w' => e = .returned (.agg ([int .i64 k, int .i64 t, int .i64 f, int .i64 l, slice none 0 0]).toArray) ∧ St w [] w' := by
 refine qP (args := [.agg ([int .i64 k, int .i64 t, int .i64 f, int .i64 l, slice none m c]).toArray]) Tryz.func68 rfl Tryz.ntmps68 (by simp) ?_
 refine qC [0] ?_
 iterate 2 refine gx ?_
 refine qx (fun g1 hg1 => ?_)
 refine qb (fun g2 hg2 => ?_)
 iterate 6 refine gx ?_
 refine qR (qA rfl) rfl enters97 rfl rfl (v := .slice none 0 0) (fun w hs => bclone_nil m c w) ?_
 refine gx ?_
 refine qy (qA rfl) rfl rfl size22 rfl rfl rfl (i := 1) rfl rfl (by simp [] <;> omega) (cs' := [int .i64 k, int .i64 t, int .i64 f, int .i64 l, slice none 0 0]) (rfl) (H' := [⟨g2, 54, [int .i64 0, int .i64 0, int .i64 0, int .i64 0, slice none 0 0], 5⟩, ⟨g1, 54, [int .i64 k, int .i64 t, int .i64 f, int .i64 l, slice none 0 0], 5⟩]) rfl ?_
 iterate 9 refine gx ?_
 exact qn rfl agg54 size54 rfl (vs := [int .i64 k, int .i64 t, int .i64 f, int .i64 l, slice none 0 0]) rfl (qZ (i := 0) (ent := ⟨g2, 54, [int .i64 k, int .i64 t, int .i64 f, int .i64 l, slice none 0 0], 5⟩) rfl rfl rfl) (fun w hs => ⟨rfl, ((hs.drop (by assumption)).drop (by assumption))⟩)
theorem clone_some (k t f l : Int) (ad : Addr) (m c : Nat) (B : List Int) (w : World) (hsA : Src w (some ad) m .u8 B) (hmc : m ≤ c) (hm : m ≤ 140737488355328) : Calls Tryz.prog 68 #[.agg ([int .i64 k, int .i64 t, int .i64 f, int .i64 l, slice (some ad) m c]).toArray] w fun e w' => ∃ g c', e = .returned (.agg ([int .i64 k, int .i64 t, int .i64 f, int .i64 l, slice (some ⟨g, 0, none⟩) m c']).toArray) ∧ w.heap.size ≤ g ∧ m ≤ c' ∧ c' ≤ maxLen ∧ St w [⟨g, 5, (B).map (int .u8), c'⟩] w' := by
 refine qP (args := [.agg ([int .i64 k, int .i64 t, int .i64 f, int .i64 l, slice (some ad) m c]).toArray]) Tryz.func68 rfl Tryz.ntmps68 (by simp) ?_
 refine qC [0] ?_
 iterate 2 refine gx ?_
 refine qx (fun g1 hg1 => ?_)
 refine qb (fun g2 hg2 => ?_)
 iterate 6 refine gx ?_
 refine qr (ι := Nat × Nat) (V := fun yk => .slice (some ⟨yk.1, 0, none⟩) m yk.2) (R := fun yk => (m ≤ yk.2 ∧ yk.2 ≤ maxLen) ∧ w.heap.size ≤ (⟨yk.1, 5, B.map (int .u8), yk.2⟩ : Ent).g) (H' := fun yk => [⟨yk.1, 5, B.map (int .u8), yk.2⟩, ⟨g2, 54, [int .i64 0, int .i64 0, int .i64 0, int .i64 0, slice none 0 0], 5⟩, ⟨g1, 54, [int .i64 k, int .i64 t, int .i64 f, int .i64 l, slice (some ad) m c], 5⟩]) (qA rfl) rfl enters97 rfl rfl (fun w hs => (show Calls Tryz.prog 97 #[.slice (some ad) m c] w (fun e w' => ∃ yk : Nat × Nat, e = .returned (.slice (some ⟨yk.1, 0, none⟩) m yk.2) ∧ (m ≤ yk.2 ∧ yk.2 ≤ maxLen) ∧ w.heap.size ≤ (⟨yk.1, 5, B.map (int .u8), yk.2⟩ : Ent).g ∧ St w [⟨yk.1, 5, B.map (int .u8), yk.2⟩] w') from (bclone_c B ad m c w (hsA.at_ hs (fun b hb => (qD (by show g2 ≠ b; omega) (qD (by show g1 ≠ b; omega) qF)))) (by omega) (by omega)).mono fun e w' ⟨gv, cv, he, hgv, hcv, hmv, hw⟩ => ⟨(gv, cv), he, ⟨hcv, hmv⟩, hgv, hw⟩).mono fun e w' ⟨x, he, hR, hE, hw⟩ => ⟨x, he, ⟨hR, Nat.le_trans hs.size hE⟩, hs.made hw hE⟩) (fun yk ⟨hRk, hEk⟩ => ?_)
 obtain ⟨gk, ck⟩ := yk
 dsimp only at hRk hEk ⊢
 obtain ⟨hck, hmk⟩ := hRk
 unfold maxLen at hmk
 refine gx ?_
 refine qy (qA rfl) rfl rfl size22 rfl rfl rfl (i := 2) rfl rfl (by simp [] <;> omega) (cs' := [int .i64 k, int .i64 t, int .i64 f, int .i64 l, slice (some ⟨gk, 0, none⟩) m ck]) (rfl) (H' := [⟨gk, 5, B.map (int .u8), ck⟩, ⟨g2, 54, [int .i64 0, int .i64 0, int .i64 0, int .i64 0, slice none 0 0], 5⟩, ⟨g1, 54, [int .i64 k, int .i64 t, int .i64 f, int .i64 l, slice (some ⟨gk, 0, none⟩) m ck], 5⟩]) rfl ?_
 iterate 9 refine gx ?_
 exact qn rfl agg54 size54 rfl (vs := [int .i64 k, int .i64 t, int .i64 f, int .i64 l, slice (some ⟨gk, 0, none⟩) m ck]) rfl (qZ (i := 1) (ent := ⟨g2, 54, [int .i64 k, int .i64 t, int .i64 f, int .i64 l, slice (some ⟨gk, 0, none⟩) m ck], 5⟩) rfl rfl rfl) (fun w hs => ⟨gk, ck, rfl, hEk, hck, by unfold maxLen; omega, ((hs.erase (i := 2) rfl (by assumption)).erase (i := 1) rfl (by assumption))⟩)
theorem grow_c (n : Nat) (h0 : 0 < n) (hn : n ≤ 140737488355328) (w : World) : Calls Tryz.prog 116 #[.slice none 0 0, .int .i64 (n : Int)] w fun e w' => ∃ g c', e = .returned (.slice (some ⟨g, 0, none⟩) 0 c') ∧ w.heap.size ≤ g ∧ 0 ≤ c' ∧ c' ≤ maxLen ∧ St w [⟨g, 5, [], c'⟩] w' := by
 refine qP (args := [.slice none 0 0, .int .i64 (n : Int)]) Tryz.func116 rfl Tryz.ntmps116 (by simp) ?_
 refine qC [0, 1] ?_
 iterate 12 refine gx ?_
 refine qQ rfl (fun hq0 => ?_) (fun hq0 => ?_)
 ·exfalso; omega
 ·iterate 7 refine gx ?_
  refine qB (qA rfl) rfl (Gets.capSlice rfl Tryz.underlying22 rfl) ?_
  iterate 2 refine gx ?_
  refine qB (qA rfl) rfl (qu rfl rfl rfl (r := 0) (w64 (by omega) (by omega))) ?_
  refine qB (qA rfl) rfl (qu rfl rfl rfl (r := (n : Int)) (w64 (by omega) (by omega))) ?_
  iterate 3 refine gx ?_
  refine qC [0, 1, 4] ?_
  iterate 6 refine gx ?_
  refine qQ rfl (fun hq1 => ?_) (fun hq1 => ?_)
  ·iterate 3 refine gx ?_
   refine qB (qA rfl) rfl (Gets.capSlice rfl Tryz.underlying22 rfl) ?_
   refine qB (qA rfl) rfl (zG rfl Tryz.underlying22 size5 rfl bnd.dflt (bnd.at_ (l := 0) rfl rfl) (by omega) (by omega) (cutA_zero _ _ _) (ln := 0) (cp := 0) (by omega) (by omega)) ?_
   refine gx ?_
   refine TL.growNil (nn := n) (qA rfl) rfl rfl Tryz.underlying22 Tryz.underlying3 mk5 rfl rfl rfl (by omega) (by omega) (by omega) (fun gr cr hgr hcr hmr => ?_)
   iterate 2 refine gx ?_
   refine qB (qA rfl) rfl (zG rfl Tryz.underlying22 size5 rfl bnd.dflt (bnd.at_ (l := 0) rfl rfl) (by omega) (by omega) (cutA_zero _ _ _) (ln := 0) (cp := cr) (by omega) (by omega)) ?_
   iterate 3 refine gx ?_
   refine qC [0, 4] ?_
   iterate 7 refine gx ?_
   exact qN rfl rfl (fun w hs => ⟨gr, cr, rfl, hgr, by omega, hmr, hs⟩)
  ·exfalso; omega
theorem grow_0 (w : World) : Calls Tryz.prog 116 #[.slice none 0 0, .int .i64 0] w fun e w' => e = .returned (.slice none 0 0) ∧ St w [] w' := by
 refine qP (args := [.slice none 0 0, .int .i64 0]) Tryz.func116 rfl Tryz.ntmps116 (by simp) ?_
 refine qC [0, 1] ?_
 iterate 12 refine gx ?_
 refine qQ rfl (fun hq0 => ?_) (fun hq0 => ?_)
 ·exfalso; omega
 ·iterate 7 refine gx ?_
  refine qB (qA rfl) rfl (Gets.capSlice rfl Tryz.underlying22 rfl) ?_
  iterate 2 refine gx ?_
  refine qB (qA rfl) rfl (qu rfl rfl rfl (r := 0) (w64 (by omega) (by omega))) ?_
  refine qB (qA rfl) rfl (qu rfl rfl rfl (r := 0) (w64 (by omega) (by omega))) ?_
  iterate 3 refine gx ?_
  refine qC [0, 1, 4] ?_
  iterate 6 refine gx ?_
  refine qQ rfl (fun hq1 => ?_) (fun hq1 => ?_)
  ·exfalso; omega
  ·iterate 9 refine gx ?_
   exact qN rfl rfl (fun w hs => ⟨rfl, hs⟩)
structure WPq where
 k : Nat
 v : Value
 He : List Ent
def totN (Ps : List (List Int)) (i : Nat) : Nat := (Ps.take i).flatten.length
theorem totN_succ {Ps : List (List Int)} {i : Nat} (h : i < Ps.length) : totN Ps (i + 1) = totN Ps i + (Ps.getD i []).length := by
 unfold totN
 have hf := flat_succ (i := i) (Ps := Ps) h []
 simp only [List.nil_append] at hf
 rw [hf, List.length_append]
theorem totN_le (Ps : List (List Int)) (i : Nat) : totN Ps i ≤ Ps.flatten.length := by
 unfold totN
 have := congrArg (fun l => (List.flatten l).length) (List.take_append_drop i Ps)
 simp only [List.flatten_append, List.length_append] at this
 omega
theorem totN_all {Ps : List (List Int)} {m : Nat} (h : Ps.length ≤ m) : totN Ps m = Ps.flatten.length := by
 unfold totN; rw [List.take_of_length_le h]
theorem totN_0 (Ps : List (List Int)) : totN Ps 0 = 0 := rfl
theorem concat_s (Ps : List (List Int)) (A : Option Addr) (m c : Nat) (w : World) (hP : PartsO w A m Ps) (hmc : m ≤ c) (hcm : c ≤ 9223372036854775807) (hS : 0 < Ps.flatten.length) (hT : Ps.flatten.length ≤ 140737488355328) : Calls Tryz.prog 104 #[.slice A m c] w fun e w' => ∃ v He, e = .returned v ∧ Own w.heap.size 5 .u8 v Ps.flatten He ∧ St w He w' := by
 refine qP (args := [.slice A m c]) Tryz.func104 rfl Tryz.ntmps104 (by simp) ?_
 refine qC [0] ?_
 iterate 19 refine gx ?_
 refine qe (ι := Nat) (fun i => [(0, .slice A m c), (3, .int .i64 (totN Ps i : Int)), (9, .slice A m c), (10, .int .i64 (m : Int)), (11, .int .i64 (i : Int))]) (fun i => []) (fun i => m - i) (fun i => i ≤ m) 0 (Nat.zero_le _) (qL (i := 0) rfl rfl (by first | omega | (dsimp only; omega) | rfl) (by first | omega | (dsimp only; omega) | rfl) (qE (i := 3) rfl (by rw [totN_0]; rfl) (qL (i := 9) rfl rfl (by first | omega | (dsimp only; omega) | rfl) (by first | omega | (dsimp only; omega) | rfl) (qE (i := 10) rfl (by first | omega | rfl) (qE (i := 11) rfl (by first | omega | rfl) (qK)))))) (fun w h => h) (fun i hC0 => ?_)
 iterate 6 refine gx ?_
 refine qQ rfl (fun hq0 => ?_) (fun hq0 => ?_)
 ·obtain ⟨b, off, hE, hb, hcells⟩ := hP.2.resolve_left (by omega)
  subst hE
  obtain ⟨Ai, mi, ci, hci, hSi, hmi⟩ := hcells i (by omega)
  have hoff : off + i = (off + i) := rfl
  have hPl := hP.1
  have hSl := hSi.1
  have htl := totN_succ (Ps := Ps) (i := i) (by omega)
  have htm := totN_le Ps (i + 1)
  iterate 6 refine gx ?_
  refine qB (qA rfl) rfl (qW rfl Tryz.underlying65 size22 rfl rfl (i := i) (by omega) (by omega) (off' := (off + i)) (by omega)) ?_
  refine qB (qA rfl) rfl (qJ rfl agg22 rfl (qp (hoff ▸ hci) hb qF)) ?_
  iterate 3 refine gx ?_
  refine qC [0, 3, 5, 9, 10, 11] ?_
  iterate 5 refine gx ?_
  refine qB (qA rfl) rfl (qU rfl rfl rfl (r := ((totN Ps i : Int) + (mi : Int))) (w64 (by omega) (by omega))) ?_
  iterate 3 refine gx ?_
  refine qC [0, 3, 9, 10, 11] ?_
  iterate 6 refine gx ?_
  refine qQ rfl (fun hq1 => ?_) (fun hq1 => ?_)
  ·exfalso; omega
  ·iterate 4 refine gx ?_
   refine qB (qA rfl) rfl (qU rfl rfl rfl (r := ((i : Int) + 1)) (w64 (by omega) (by omega))) ?_
   iterate 2 refine gx ?_
   exact qc (i + 1) (by omega) (by omega) (qL (i := 0) rfl rfl (by first | omega | (dsimp only; omega) | rfl) (by first | omega | (dsimp only; omega) | rfl) (qE (i := 3) rfl (by first | omega | rfl) (qL (i := 9) rfl (by first | rfl | (congr 2; omega)) (by first | omega | (dsimp only; omega) | rfl) (by first | omega | (dsimp only; omega) | rfl) (qE (i := 10) rfl (by first | omega | rfl) (qE (i := 11) rfl (by first | omega | rfl) (qK)))))) (fun w h => h)
 ·have hall := totN_all (Ps := Ps) (m := m) (by have := hP.1; omega)
  obtain rfl : m = i := by omega
  iterate 8 refine gx ?_
  refine qr (ι := Nat × Nat) (V := fun yg => .slice (some ⟨yg.1, 0, none⟩) 0 yg.2) (R := fun yg => (yg.2 ≤ maxLen) ∧ w.heap.size ≤ (⟨yg.1, 5, [], yg.2⟩ : Ent).g) (H' := fun yg => [⟨yg.1, 5, [], yg.2⟩]) (qA rfl) rfl enters116 rfl rfl (fun w hs => (show Calls Tryz.prog 116 #[.slice none 0 0, .int .i64 (totN Ps m : Int)] w (fun e w' => ∃ yg : Nat × Nat, e = .returned (.slice (some ⟨yg.1, 0, none⟩) 0 yg.2) ∧ (yg.2 ≤ maxLen) ∧ w.heap.size ≤ (⟨yg.1, 5, [], yg.2⟩ : Ent).g ∧ St w [⟨yg.1, 5, [], yg.2⟩] w') from (grow_c ((totN Ps m)) (by omega) (by omega) w).mono fun e w' ⟨gv, cv, he, hgv, hcv, hmv, hw⟩ => ⟨(gv, cv), he, hmv, hgv, hw⟩).mono fun e w' ⟨x, he, hR, hE, hw⟩ => ⟨x, he, ⟨hR, Nat.le_trans hs.size hE⟩, hs.made hw hE⟩) (fun yg ⟨hRg, hEg⟩ => ?_)
  obtain ⟨gg, cg⟩ := yg
  dsimp only at hRg hEg ⊢
  iterate 3 refine gx ?_
  refine qC [0, 6] ?_
  iterate 9 refine gx ?_
  refine qe (ι := WPq) (fun x => [(6, x.v), (25, .slice A m c), (26, .int .i64 (m : Int)), (27, .int .i64 (x.k : Int))]) (fun x => [] ++ x.He) (fun x => m - x.k) (fun x => Own w.heap.size 5 .u8 x.v (Ps.take x.k).flatten x.He ∧ x.k ≤ m) (⟨0, .slice (some ⟨gg, 0, none⟩) 0 cg, [⟨gg, 5, [], cg⟩]⟩ : WPq) ⟨.inr ⟨gg, cg, rfl, rfl, hEg, Nat.zero_le _, hRg⟩, Nat.zero_le _⟩ (qH (i := 6) rfl (qL (i := 25) rfl rfl (by first | omega | (dsimp only; omega) | rfl) (by first | omega | (dsimp only; omega) | rfl) (qE (i := 26) rfl (by first | omega | rfl) (qE (i := 27) rfl (by first | omega | rfl) (qK))))) (fun w h => h) (fun x hC1 => ?_)
  obtain ⟨k, v, He⟩ := x
  obtain ⟨hown, hC2⟩ := hC1
  dsimp only at hown hC2 ⊢
  have hPl := hP.1
  iterate 6 refine gx ?_
  refine qQ rfl (fun hq2 => ?_) (fun hq2 => ?_)
  ·obtain ⟨b, off, hE, hb, hcells⟩ := hP.2.resolve_left (by omega)
   subst hE
   obtain ⟨Ai, mi, ci, hci, hSi, hmi⟩ := hcells k (by omega)
   have hoff : off + k = (off + k) := rfl
   have hPl := hP.1
   have hSl := hSi.1
   have htl := totN_succ (Ps := Ps) (i := k) (by omega)
   have htm := totN_le Ps (k + 1)
   iterate 6 refine gx ?_
   refine qB (qA rfl) rfl (qW rfl Tryz.underlying65 size22 rfl rfl (i := k) (by omega) (by omega) (off' := (off + k)) (by omega)) ?_
   refine qB (qA rfl) rfl (qJ rfl agg22 rfl (qp (hoff ▸ hci) hb (qY qF (hown.ne hb)))) ?_
   iterate 6 refine gx ?_
   have hlt : (Ps.take k).flatten.length = totN Ps k := rfl
   refine zM (H := []) (qA rfl) rfl rfl Tryz.underlying22 mk5 rfl rfl rfl (W := (Ps.take k).flatten) (B := Ps.getD k []) hown (fun w hs => hSi.at_ hs (fun b hb => qY qF (hown.ne hb))) (by omega) (by omega) (fun vo Ho ho hne => ?_)
   iterate 4 refine gx ?_
   refine qC [6, 25, 26, 27] ?_
   refine gx ?_
   refine qB (qA rfl) rfl (qU rfl rfl rfl (r := ((k : Int) + 1)) (w64 (by omega) (by omega))) ?_
   iterate 2 refine gx ?_
   exact qc (⟨k + 1, vo, Ho⟩ : WPq) (by show m - (k + 1) < m - k; omega) ⟨by show Own _ _ _ vo (Ps.take (k + 1)).flatten Ho; have := flat_succ (i := k) (Ps := Ps) (by omega) []; simp only [List.nil_append] at this; rw [this]; exact ho, by show k + 1 ≤ m; omega⟩ (qH (i := 6) rfl (qL (i := 25) rfl (by first | rfl | (congr 2; omega)) (by first | omega | (dsimp only; omega) | rfl) (by first | omega | (dsimp only; omega) | rfl) (qE (i := 26) rfl (by first | omega | rfl) (qE (i := 27) rfl (by first | omega | rfl) (qK))))) (fun w h => h)
  ·have htk : Ps.take k = Ps := List.take_of_length_le (by omega)
   rw [htk] at hown
   iterate 12 refine gx ?_
   exact qN rfl rfl (fun w hs => ⟨_, _, rfl, hown, hs⟩)
theorem concat_0 (Ps : List (List Int)) (A : Option Addr) (m c : Nat) (w : World) (hP : PartsO w A m Ps) (hmc : m ≤ c) (hcm : c ≤ 9223372036854775807) (hS : Ps.flatten.length = 0) (hT : Ps.flatten.length ≤ 140737488355328) : Calls Tryz.prog 104 #[.slice A m c] w fun e w' => ∃ v He, e = .returned v ∧ Own w.heap.size 5 .u8 v Ps.flatten He ∧ St w He w' := by
 refine qP (args := [.slice A m c]) Tryz.func104 rfl Tryz.ntmps104 (by simp) ?_
 refine qC [0] ?_
 iterate 19 refine gx ?_
 refine qe (ι := Nat) (fun i => [(0, .slice A m c), (3, .int .i64 (totN Ps i : Int)), (9, .slice A m c), (10, .int .i64 (m : Int)), (11, .int .i64 (i : Int))]) (fun i => []) (fun i => m - i) (fun i => i ≤ m) 0 (Nat.zero_le _) (qL (i := 0) rfl rfl (by first | omega | (dsimp only; omega) | rfl) (by first | omega | (dsimp only; omega) | rfl) (qE (i := 3) rfl (by rw [totN_0]; rfl) (qL (i := 9) rfl rfl (by first | omega | (dsimp only; omega) | rfl) (by first | omega | (dsimp only; omega) | rfl) (qE (i := 10) rfl (by first | omega | rfl) (qE (i := 11) rfl (by first | omega | rfl) (qK)))))) (fun w h => h) (fun i hC0 => ?_)
 iterate 6 refine gx ?_
 refine qQ rfl (fun hq0 => ?_) (fun hq0 => ?_)
 ·obtain ⟨b, off, hE, hb, hcells⟩ := hP.2.resolve_left (by omega)
  subst hE
  obtain ⟨Ai, mi, ci, hci, hSi, hmi⟩ := hcells i (by omega)
  have hoff : off + i = (off + i) := rfl
  have hPl := hP.1
  have hSl := hSi.1
  have htl := totN_succ (Ps := Ps) (i := i) (by omega)
  have htm := totN_le Ps (i + 1)
  iterate 6 refine gx ?_
  refine qB (qA rfl) rfl (qW rfl Tryz.underlying65 size22 rfl rfl (i := i) (by omega) (by omega) (off' := (off + i)) (by omega)) ?_
  refine qB (qA rfl) rfl (qJ rfl agg22 rfl (qp (hoff ▸ hci) hb qF)) ?_
  iterate 3 refine gx ?_
  refine qC [0, 3, 5, 9, 10, 11] ?_
  iterate 5 refine gx ?_
  refine qB (qA rfl) rfl (qU rfl rfl rfl (r := ((totN Ps i : Int) + (mi : Int))) (w64 (by omega) (by omega))) ?_
  iterate 3 refine gx ?_
  refine qC [0, 3, 9, 10, 11] ?_
  iterate 6 refine gx ?_
  refine qQ rfl (fun hq1 => ?_) (fun hq1 => ?_)
  ·exfalso; omega
  ·iterate 4 refine gx ?_
   refine qB (qA rfl) rfl (qU rfl rfl rfl (r := ((i : Int) + 1)) (w64 (by omega) (by omega))) ?_
   iterate 2 refine gx ?_
   exact qc (i + 1) (by omega) (by omega) (qL (i := 0) rfl rfl (by first | omega | (dsimp only; omega) | rfl) (by first | omega | (dsimp only; omega) | rfl) (qE (i := 3) rfl (by first | omega | rfl) (qL (i := 9) rfl (by first | rfl | (congr 2; omega)) (by first | omega | (dsimp only; omega) | rfl) (by first | omega | (dsimp only; omega) | rfl) (qE (i := 10) rfl (by first | omega | rfl) (qE (i := 11) rfl (by first | omega | rfl) (qK)))))) (fun w h => h)
 ·have hall := totN_all (Ps := Ps) (m := m) (by have := hP.1; omega)
  obtain rfl : m = i := by omega
  iterate 8 refine gx ?_
  refine qR (qA rfl) rfl enters116 rfl rfl (v := .slice none 0 0) (fun w hs => by have h := grow_0 w; rw [show (0 : Int) = ((totN Ps m : Nat) : Int) by omega] at h; exact h) ?_
  iterate 3 refine gx ?_
  refine qC [0, 6] ?_
  iterate 9 refine gx ?_
  refine qe (ι := WPq) (fun x => [(6, x.v), (25, .slice A m c), (26, .int .i64 (m : Int)), (27, .int .i64 (x.k : Int))]) (fun x => [] ++ x.He) (fun x => m - x.k) (fun x => Own w.heap.size 5 .u8 x.v (Ps.take x.k).flatten x.He ∧ x.k ≤ m) (⟨0, .slice none 0 0, []⟩ : WPq) ⟨Own.nil _ _ _, Nat.zero_le _⟩ (qH (i := 6) rfl (qL (i := 25) rfl rfl (by first | omega | (dsimp only; omega) | rfl) (by first | omega | (dsimp only; omega) | rfl) (qE (i := 26) rfl (by first | omega | rfl) (qE (i := 27) rfl (by first | omega | rfl) (qK))))) (fun w h => h) (fun x hC1 => ?_)
  obtain ⟨k, v, He⟩ := x
  obtain ⟨hown, hC2⟩ := hC1
  dsimp only at hown hC2 ⊢
  have hPl := hP.1
  iterate 6 refine gx ?_
  refine qQ rfl (fun hq2 => ?_) (fun hq2 => ?_)
  ·obtain ⟨b, off, hE, hb, hcells⟩ := hP.2.resolve_left (by omega)
   subst hE
   obtain ⟨Ai, mi, ci, hci, hSi, hmi⟩ := hcells k (by omega)
   have hoff : off + k = (off + k) := rfl
   have hPl := hP.1
   have hSl := hSi.1
   have htl := totN_succ (Ps := Ps) (i := k) (by omega)
   have htm := totN_le Ps (k + 1)
   iterate 6 refine gx ?_
   refine qB (qA rfl) rfl (qW rfl Tryz.underlying65 size22 rfl rfl (i := k) (by omega) (by omega) (off' := (off + k)) (by omega)) ?_
   refine qB (qA rfl) rfl (qJ rfl agg22 rfl (qp (hoff ▸ hci) hb (qY qF (hown.ne hb)))) ?_
   iterate 6 refine gx ?_
   have hlt : (Ps.take k).flatten.length = totN Ps k := rfl
   refine zM (H := []) (qA rfl) rfl rfl Tryz.underlying22 mk5 rfl rfl rfl (W := (Ps.take k).flatten) (B := Ps.getD k []) hown (fun w hs => hSi.at_ hs (fun b hb => qY qF (hown.ne hb))) (by omega) (by omega) (fun vo Ho ho hne => ?_)
   iterate 4 refine gx ?_
   refine qC [6, 25, 26, 27] ?_
   refine gx ?_
   refine qB (qA rfl) rfl (qU rfl rfl rfl (r := ((k : Int) + 1)) (w64 (by omega) (by omega))) ?_
   iterate 2 refine gx ?_
   exact qc (⟨k + 1, vo, Ho⟩ : WPq) (by show m - (k + 1) < m - k; omega) ⟨by show Own _ _ _ vo (Ps.take (k + 1)).flatten Ho; have := flat_succ (i := k) (Ps := Ps) (by omega) []; simp only [List.nil_append] at this; rw [this]; exact ho, by show k + 1 ≤ m; omega⟩ (qH (i := 6) rfl (qL (i := 25) rfl (by first | rfl | (congr 2; omega)) (by first | omega | (dsimp only; omega) | rfl) (by first | omega | (dsimp only; omega) | rfl) (qE (i := 26) rfl (by first | omega | rfl) (qE (i := 27) rfl (by first | omega | rfl) (qK))))) (fun w h => h)
  ·have htk : Ps.take k = Ps := List.take_of_length_le (by omega)
   rw [htk] at hown
   iterate 12 refine gx ?_
   exact qN rfl rfl (fun w hs => ⟨_, _, rfl, hown, hs⟩)
theorem concat_c (Ps : List (List Int)) (A : Option Addr) (m c : Nat) (w : World) (hP : PartsO w A m Ps) (hmc : m ≤ c) (hcm : c ≤ 9223372036854775807) (hT : Ps.flatten.length ≤ 140737488355328) : Calls Tryz.prog 104 #[.slice A m c] w fun e w' => ∃ v He, e = .returned v ∧ Own w.heap.size 5 .u8 v Ps.flatten He ∧ St w He w' := by
 by_cases h : Ps.flatten.length = 0
 ·exact concat_0 Ps A m c w hP hmc hcm h hT
 ·exact concat_s Ps A m c w hP hmc hcm (by omega) hT
/-
 Contracts of Literal and Part.
-/
theorem enters104 : Enters Tryz.prog 104 := ⟨_, Tryz.func104, by kernel_rfl, by kernel_rfl⟩
theorem literal_c (t : Int) (Ps : List (List Int)) (A : Option Addr) (m c : Nat) (w : World) (hP : PartsO w A m Ps) (hmc : m ≤ c) (hcm : c ≤ 9223372036854775807) (hT : Ps.flatten.length ≤ 140737488355328) : Calls Tryz.prog 76 #[.int .i64 t, .slice A m c] w fun e w' => ∃ A' c' He, e = .returned (.agg ([int .i64 2, int .i64 t, int .i64 0, int .i64 0, slice A' Ps.flatten.length ((c'))]).toArray) ∧ Own w.heap.size 5 .u8 (.slice A' Ps.flatten.length c') Ps.flatten He ∧ St w He w' := by
 refine qP (args := [.int .i64 t, .slice A m c]) Tryz.func76 rfl Tryz.ntmps76 (by simp) ?_
 refine qC [0, 1] ?_
 iterate 2 refine gx ?_
 refine qb (fun g1 hg1 => ?_)
 iterate 6 refine gx ?_
 refine qr (ι := Value × List Ent) (V := fun yl => yl.1) (R := fun yl => Own w.heap.size 5 .u8 yl.1 Ps.flatten yl.2) (H' := fun yl => [⟨g1, 54, [int .i64 0, int .i64 0, int .i64 0, int .i64 0, slice none 0 0], 5⟩] ++ yl.2) (qA rfl) rfl enters104 rfl rfl (fun w hs => (concat_c Ps A m c w (hP.at_ hs (fun b hb => (qD (by show g1 ≠ b; omega) qF))) hmc hcm hT).mono fun e w' ⟨v, He, he, ho, hw⟩ => ⟨(v, He), he, own_mono ho hs.size, st_call hs hw ho.new⟩) (fun yl hOl => ?_)
 obtain ⟨vl, Hl⟩ := yl
 dsimp only at hOl ⊢
 obtain ⟨Al, cl, hvl, hcl, hdl⟩ := hOl.form
 subst hvl
 refine qB (qA rfl) rfl (qm rfl (vs := [(0, int .i64 2), (1, int .i64 t), (4, slice Al Ps.flatten.length cl)]) rfl (fun w => by first | rfl | kernel_rfl) (v := .agg ([int .i64 2, int .i64 t, int .i64 0, int .i64 0, slice Al Ps.flatten.length cl]).toArray)) ?_
 refine qz (qA rfl) rfl rfl size54 rfl (vs := [int .i64 2, int .i64 t, int .i64 0, int .i64 0, slice Al Ps.flatten.length cl]) rfl (by simp []) (by simp [Value.oneCell']) (i := 0) (ent := ⟨g1, 54, [int .i64 0, int .i64 0, int .i64 0, int .i64 0, slice none 0 0], 5⟩) rfl rfl (by simp []) (H' := [⟨g1, 54, [int .i64 2, int .i64 t, int .i64 0, int .i64 0, slice Al Ps.flatten.length cl], 5⟩] ++ Hl) rfl ?_
 iterate 3 refine gx ?_
 exact qn rfl agg54 size54 rfl (vs := [int .i64 2, int .i64 t, int .i64 0, int .i64 0, slice Al Ps.flatten.length cl]) rfl (qZ (i := 0) (ent := ⟨g1, 54, [int .i64 2, int .i64 t, int .i64 0, int .i64 0, slice Al Ps.flatten.length cl], 5⟩) rfl rfl rfl) (fun w hs => ⟨Al, cl, Hl, rfl, hOl, St.drop (H := Hl) hs (by assumption)⟩)
theorem literal1_c (t : Int) (B : List Int) (A : Option Addr) (n c gp tt tot : Nat) (w : World) (hl : Ent.lies ⟨gp, tt, [slice A n c], tot⟩ w) (hsB : Src w A n .u8 B) (hnc : n ≤ c) (h0 : 0 < n) (hn : n ≤ 140737488355328) :
  Calls Tryz.prog 76 #[.int .i64 t, .slice (some ⟨gp, 0, none⟩) 1 1] w fun e w' => ∃ g c', e = .returned (.agg ([int .i64 2, int .i64 t, int .i64 0, int .i64 0, slice (some ⟨g, 0, none⟩) n c']).toArray) ∧ w.heap.size ≤ g ∧ n ≤ c' ∧ c' ≤ maxLen ∧ St w [⟨g, 5, B.map (int .u8), c'⟩] w' := by
 have hfl : [B].flatten = B := by simp
 have h := literal_c t [B] (some ⟨gp, 0, none⟩) 1 1 w (parts_one hl hsB hnc) (Nat.le_refl _) (by omega) (by rw [hfl, hsB.1]; omega)
 rw [hfl, hsB.1] at h
 refine h.mono fun e w' ⟨A', c', He, he, ho, hw⟩ => ?_
 obtain ⟨g, c2, h1, h2, h3, h4, h5⟩ := own_some ho (by intro h; cases h; omega)
 rw [hsB.1] at h1 h4
 cases h1
 subst h2
 exact ⟨g, c', he, h3, h4, h5, hw⟩
/-
 The reference of layer 5: Few, single, Find.
-/
theorem agg24 : (isAgg 24).run Tryz.prog = fun w => .ok false w := isAgg_no Tryz.underlying24 rfl
theorem size24 : (Tryz.prog.info? 24).map (·.size) = some 1 := by kernel_rfl
instance : AgN Tryz.prog 24 := ⟨agg24⟩
instance : Fld Tryz.prog 26 0 0 := ⟨⟨_, _, _, Tryz.underlying26, rfl, size3, rfl⟩⟩
instance : Fld Tryz.prog 26 1 1 := ⟨⟨_, _, _, Tryz.underlying26, rfl, size3, rfl⟩⟩
instance : Fld Tryz.prog 26 4 66 := ⟨⟨_, _, _, Tryz.underlying26, rfl, size24, rfl⟩⟩
instance : Sli Tryz.prog 24 54 := ⟨Tryz.underlying24⟩
/-
 The reference of layer 5: gap, Check, Valid.
-/
theorem agg26 : (isAgg 26).run Tryz.prog = fun w => .ok true w := isAgg_yes Tryz.underlying26 rfl
theorem size26 : (Tryz.prog.info? 26).map (·.size) = some 67 := by kernel_rfl
instance : AgY Tryz.prog 26 := ⟨agg26⟩
instance : Siz Tryz.prog 26 67 := ⟨size26⟩
/-
 The reference of layer 5: Totals.
-/
/-
 The reference of layer 5: All, Same.
-/
theorem enters27 : Enters Tryz.prog 27 := ⟨_, Tryz.func27, by kernel_rfl, by kernel_rfl⟩
theorem enters47 : Enters Tryz.prog 47 := ⟨_, Tryz.func47, by kernel_rfl, by kernel_rfl⟩
theorem geq23 : Tryz.prog.eqGuardType Tryz.prog.depth 23 = false := by kernel_rfl
instance : Fld Tryz.prog 26 2 2 := ⟨⟨_, _, _, Tryz.underlying26, rfl, size23, rfl⟩⟩
instance : Fld Tryz.prog 26 3 34 := ⟨⟨_, _, _, Tryz.underlying26, rfl, size23, rfl⟩⟩
theorem rall_c (A A2 : Option Addr) (m c m2 c2 : Nat) (Cs Es : List CV) (hmm : m ≤ 1000000000) (hmm2 : m2 ≤ 1000000000) (hN : NumsC Cs) (w : World) (hC : SrcC w A m Cs) (hC2 : SrcC w A2 m2 Es) (hD : DatC w Cs) (hE : DatC w Es) : Calls Tryz.prog 27 #[.slice A m c, .slice A2 m2 c2] w fun e w' => e = .returned (.bool (decide (sameC Cs Es))) ∧ St w [] w' := by
 refine qP (args := [.slice A m c, .slice A2 m2 c2]) Tryz.func27 rfl Tryz.ntmps27 (by simp) ?_
 refine qC [0, 1] ?_
 iterate 15 refine gx ?_
 refine qQ rfl (fun hq0 => ?_) (fun hq0 => ?_)
 ·iterate 7 refine gx ?_
  exact qN rfl rfl (fun w hs => ⟨dec_f (fun h => by first | exact hq2 (sameC_at h hx hy) | (have h1 := sameC_len h; have h2 := hC.1; have h3 := hC2.1; omega)), hs⟩)
 ·iterate 8 refine gx ?_
  refine qC [0, 1, 4, 5] ?_
  refine gx ?_
  refine qe (ι := Nat) (fun i => [(0, .slice A m c), (1, .slice A2 m2 c2), (5, .int .i64 (i : Int))]) (fun i => []) (fun i => m - i) (fun i => i ≤ m ∧ ∀ (j : Nat) (x y : CV), j < i → Cs[j]? = some x → Es[j]? = some y → sameV x y) 0 ⟨Nat.zero_le _, fun j x y h => absurd h (Nat.not_lt_zero j)⟩ (qL (i := 0) rfl rfl (by first | omega | (dsimp only; omega) | rfl) (by first | omega | (dsimp only; omega) | rfl) (qL (i := 1) rfl rfl (by first | omega | (dsimp only; omega) | rfl) (by first | omega | (dsimp only; omega) | rfl) (qE (i := 5) rfl (by first | omega | rfl) (qK)))) (fun w h => h) (fun i hC0 => ?_)
  obtain ⟨hC0, hj⟩ := hC0
  iterate 9 refine gx ?_
  refine qQ rfl (fun hq1 => ?_) (fun hq1 => ?_)
  ·obtain ⟨b, off, hAe, hb, hrw⟩ := hC.some_ (i := i) (by omega)
   subst hAe
   obtain ⟨x, hx⟩ := hC.get (i := i) (by omega)
   have hnx := hN i x hx
   unfold NumC at hnx
   have hlbx := lenV_bd (k := x.k) (l := x.l) (m := x.m) (by omega) (by omega)
   obtain ⟨b2, off2, hAe2, hb2, hrw2⟩ := hC2.some_ (i := i) (by omega)
   subst hAe2
   obtain ⟨y, hy⟩ := hC2.get (i := i) (by omega)
   iterate 5 refine gx ?_
   refine qs (by kernel_rfl) [0, 0, 0, 1, 0, 0, 0, 1, 1, 0] rfl (by kernel_rfl) ?_
   iterate 2 refine gx ?_
   refine qG (qA rfl) rfl (fun _ => qW rfl Tryz.underlying24 size54 rfl rfl (i := i) (by omega) (by omega) (off' := (off + 5 * i)) (by omega)) ?_
   refine qX (qA rfl) rfl (qh rfl agg54 size54 rfl rfl (Row.old (fun jj u h => hrw i x hx jj u h) hb qF)) ?_
   iterate 2 refine gx ?_
   refine qG (qA rfl) rfl (fun _ => qW rfl Tryz.underlying24 size54 rfl rfl (i := i) (by omega) (by omega) (off' := (off2 + 5 * i)) (by omega)) ?_
   refine qX (qA rfl) rfl (qh rfl agg54 size54 rfl rfl (Row.old (fun jj u h => hrw2 i y hy jj u h) hb2 qF)) ?_
   refine TM.call0 (qA rfl) rfl enters47 rfl rfl (v := .bool (decide (sameP x.k x.t x.f x.l y.k y.t y.f y.l x.B y.B))) (fun w hs => rsame_c x.k x.t x.f x.l y.k y.t y.f y.l x.A y.A x.m x.c y.m y.c x.B y.B (hD i x hx).2 (hE i y hy).2 w ((hD i x hx).1.at_ hs (fun b hb => qF)) ((hE i y hy).1.at_ hs (fun b hb => qF))) ?_
   iterate 3 refine gx ?_
   refine qC [0, 1, 5, 26] ?_
   refine qQ rfl (fun hq2 => ?_) (fun hq2 => ?_)
   ·iterate 11 refine gx ?_
    exact qN rfl rfl (fun w hs => ⟨dec_f (fun h => by first | exact hq2 (sameC_at h hx hy) | (have h1 := sameC_len h; have h2 := hC.1; have h3 := hC2.1; omega)), hs⟩)
   ·iterate 5 refine gx ?_
    refine qB (qA rfl) rfl (qU rfl rfl rfl (r := ((i : Int) + 1)) (w64 (by omega) (by omega))) ?_
    iterate 2 refine gx ?_
    exact qc (i + 1) (by omega) ⟨by omega, sameC_succ hj hx hy (Decidable.not_not.1 hq2)⟩ (qL (i := 0) rfl (by first | rfl | (congr 2; omega)) (by first | omega | (dsimp only; omega) | rfl) (by first | omega | (dsimp only; omega) | rfl) (qL (i := 1) rfl (by first | rfl | (congr 2; omega)) (by first | omega | (dsimp only; omega) | rfl) (by first | omega | (dsimp only; omega) | rfl) (qE (i := 5) rfl (by first | omega | rfl) (qK)))) (fun w h => h)
  ·iterate 11 refine gx ?_
   exact qN rfl rfl (fun w hs => ⟨dec_t (sameC_of (by have := hC.1; have := hC2.1; omega) fun i' x y hx hy => hj i' x y (by have := (List.getElem?_eq_some_iff.1 hx).1; have := hC.1; omega) hx hy), hs⟩)
abbrev dV (o n : Int) (X Y : List Int) (s : Value) : List Value := [int .i64 o, int .i64 n] ++ (X.map (int .u8) ++ (Y.map (int .u8) ++ ([s])))
theorem rdsame_c (o n : Int) (H1 H2 : List Int) (hH1 : H1.length = 32) (hH2 : H2.length = 32) (A : Option Addr) (m c : Nat) (Cs : List CV) (o2 n2 : Int) (G1 G2 : List Int) (hG1 : G1.length = 32) (hG2 : G2.length = 32) (A2 : Option Addr) (m2 c2 : Nat) (Es : List CV) (hmm : m ≤ 1000000000) (hmm2 : m2 ≤ 1000000000) (hN : NumsC Cs) (w : World) (hC : SrcC w A m Cs) (hC2 : SrcC w A2 m2 Es) (hD : DatC w Cs) (hE : DatC w Es) : Calls Tryz.prog 20 #[.agg (dV o n H1 H2 (slice A m c)).toArray, .agg (dV o2 n2 G1 G2 (slice A2 m2 c2)).toArray] w fun e w' => e = .returned (.bool (decide (sameD o n H1 H2 Cs o2 n2 G1 G2 Es))) ∧ St w [] w' := by
 refine qP (args := [.agg (dV o n H1 H2 (slice A m c)).toArray, .agg (dV o2 n2 G1 G2 (slice A2 m2 c2)).toArray]) Tryz.func20 rfl Tryz.ntmps20 (by simp) ?_
 refine qC [0, 1] ?_
 iterate 2 refine gx ?_
 refine TL.box (qA rfl) rfl rfl rfl (cs := dV o n H1 H2 (slice A m c)) (by simp [Value.cells]) (tot := 67) (by simp [hH1, hH2]) (fun g1 hg1 => ?_)
 refine TL.box (qA rfl) rfl rfl rfl (cs := dV o2 n2 G1 G2 (slice A2 m2 c2)) (by simp [Value.cells]) (tot := 67) (by simp [hG1, hG2]) (fun g2 hg2 => ?_)
 iterate 9 refine gx ?_
 by_cases q1 : o = o2
 ·refine qB (qA rfl) rfl (qi (qo rfl rfl rfl) q1) ?_
  iterate 5 refine gx ?_
  by_cases q2 : n = n2
  ·refine qB (qM rfl rfl rfl) rfl (qi (qo rfl rfl rfl) q2) ?_
   iterate 3 refine gx ?_
   refine qB (qM rfl rfl rfl) rfl (qh rfl agg23 size23 rfl (vs := H1.map (int .u8)) (by simp [hH1]) (Row.part (i := 1) (ent := ⟨g1, 26, dV o n H1 H2 (slice A m c), 67⟩) rfl rfl (by exact seg_mid (by simp [])))) ?_
   refine gx ?_
   refine qB (qM rfl rfl rfl) rfl (qh rfl agg23 size23 rfl (vs := G1.map (int .u8)) (by simp [hG1]) (Row.part (i := 0) (ent := ⟨g2, 26, dV o2 n2 G1 G2 (slice A2 m2 c2), 67⟩) rfl rfl (by exact seg_mid (by simp [])))) ?_
   by_cases q3 : H1 = G1
   ·refine qB (qM rfl rfl rfl) rfl (qi (Gets.arrEq rfl Tryz.underlying23 Tryz.underlying5 size5 geq23 rfl rfl hH1 hG1) q3) ?_
    iterate 3 refine gx ?_
    refine qB (qM rfl rfl rfl) rfl (qh rfl agg23 size23 rfl (vs := H2.map (int .u8)) (by simp [hH2]) (Row.part (i := 1) (ent := ⟨g1, 26, [int .i64 o, int .i64 n] ++ (H1.map (int .u8) ++ (H2.map (int .u8) ++ ([slice A m c]))), 67⟩) rfl rfl (by rw [← List.append_assoc]; exact seg_mid (by simp [hH1])))) ?_
    refine gx ?_
    refine qB (qM rfl rfl rfl) rfl (qh rfl agg23 size23 rfl (vs := G2.map (int .u8)) (by simp [hG2]) (Row.part (i := 0) (ent := ⟨g2, 26, [int .i64 o2, int .i64 n2] ++ (G1.map (int .u8) ++ (G2.map (int .u8) ++ ([slice A2 m2 c2]))), 67⟩) rfl rfl (by rw [← List.append_assoc]; exact seg_mid (by simp [hG1])))) ?_
    by_cases q4 : H2 = G2
    ·refine qB (qM rfl rfl rfl) rfl (qi (Gets.arrEq rfl Tryz.underlying23 Tryz.underlying5 size5 geq23 rfl rfl hH2 hG2) q4) ?_
     iterate 6 refine gx ?_
     refine qR (qM rfl rfl rfl) rfl enters27 rfl rfl (v := .bool (decide (sameC Cs Es))) (fun w hs => rall_c A A2 m c m2 c2 Cs Es hmm hmm2 hN w (hC.at_ hs (fun b hb => (qD (by show g2 ≠ b; omega) (qD (by show g1 ≠ b; omega) qF)))) (hC2.at_ hs (fun b hb => (qD (by show g2 ≠ b; omega) (qD (by show g1 ≠ b; omega) qF)))) (hD.at_ hs (fun b hb => (qD (by show g2 ≠ b; omega) (qD (by show g1 ≠ b; omega) qF)))) (hE.at_ hs (fun b hb => (qD (by show g2 ≠ b; omega) (qD (by show g1 ≠ b; omega) qF))))) ?_
     iterate 5 refine gx ?_
     exact qN rfl rfl (fun w hs => ⟨dec_iff (by unfold sameD; simp [*]), ((hs.drop (by assumption)).drop (by assumption))⟩)
    ·refine qB (qM rfl rfl rfl) rfl (qg (Gets.arrEq rfl Tryz.underlying23 Tryz.underlying5 size5 geq23 rfl rfl hH2 hG2) q4) ?_
     iterate 12 refine gx ?_
     exact qN rfl rfl (fun w hs => ⟨dec_f (by unfold sameD; simp [*]), ((hs.drop (by assumption)).drop (by assumption))⟩)
   ·refine qB (qM rfl rfl rfl) rfl (qg (Gets.arrEq rfl Tryz.underlying23 Tryz.underlying5 size5 geq23 rfl rfl hH1 hG1) q3) ?_
    iterate 19 refine gx ?_
    exact qN rfl rfl (fun w hs => ⟨dec_f (by unfold sameD; simp [*]), ((hs.drop (by assumption)).drop (by assumption))⟩)
  ·refine qB (qM rfl rfl rfl) rfl (qg (qo rfl rfl rfl) q2) ?_
   iterate 26 refine gx ?_
   exact qN rfl rfl (fun w hs => ⟨dec_f (by unfold sameD; simp [*]), ((hs.drop (by assumption)).drop (by assumption))⟩)
 ·refine qB (qA rfl) rfl (qg (qo rfl rfl rfl) q1) ?_
  iterate 32 refine gx ?_
  exact qN rfl rfl (fun w hs => ⟨dec_f (by unfold sameD; simp [*]), ((hs.drop (by assumption)).drop (by assumption))⟩)
/-
 A slice of the call's own whose elements are values of one cell each; blocks that a loop has made, one a round; three-number arrays.
-/
section
variable {P : Program} {ops : Array Oper} {Q : Exit → Act → World → Prop} {n : Sz} {w0 : World} {L L' : List (Nat × Value)} {H : List Ent}
variable {o : Oper} {rest : List Oper} {v u : Value} {x y z : Operand} {k m j : Nat} {t t' e : TypeId} {ks : List Nat} {kd : IntKind}
end
/-
 The reference of layer 5: With, Sort.
-/
theorem zero26 : (Tryz.prog.info? 26).bind (·.zero) = some (.agg #[.int .i64 0, .int .i64 0, .int .u8 0, .int .u8 0, .int .u8 0, .int .u8 0, .int .u8 0, .int .u8 0, .int .u8 0, .int .u8 0, .int .u8 0, .int .u8 0, .int .u8 0, .int .u8 0, .int .u8 0, .int .u8 0, .int .u8 0, .int .u8 0, .int .u8 0, .int .u8 0, .int .u8 0, .int .u8 0, .int .u8 0, .int .u8 0, .int .u8 0, .int .u8 0, .int .u8 0, .int .u8 0, .int .u8 0, .int .u8 0, .int .u8 0, .int .u8 0, .int .u8 0, .int .u8 0, .int .u8 0, .int .u8 0, .int .u8 0, .int .u8 0, .int .u8 0, .int .u8 0, .int .u8 0, .int .u8 0, .int .u8 0, .int .u8 0, .int .u8 0, .int .u8 0, .int .u8 0, .int .u8 0, .int .u8 0, .int .u8 0, .int .u8 0, .int .u8 0, .int .u8 0, .int .u8 0, .int .u8 0, .int .u8 0, .int .u8 0, .int .u8 0, .int .u8 0, .int .u8 0, .int .u8 0, .int .u8 0, .int .u8 0, .int .u8 0, .int .u8 0, .int .u8 0, .slice none 0 0]) := by kernel_rfl
/-
 The code of layer 5: upTo, its iterator, overlap, gap.
-/
theorem agg78 : (isAgg 78).run Tryz.prog = fun w => .ok false w := isAgg_no Tryz.underlying78 rfl
theorem agg83 : (isAgg 83).run Tryz.prog = fun w => .ok true w := isAgg_yes Tryz.underlying83 rfl
theorem enters112 : Enters Tryz.prog 112 := ⟨_, Tryz.func112, by kernel_rfl, by kernel_rfl⟩
theorem size83 : (Tryz.prog.info? 83).map (·.size) = some 3 := by kernel_rfl
theorem zero3 : (Tryz.prog.info? 3).bind (·.zero) = some (.int .i64 0) := by kernel_rfl
theorem zero4 : (Tryz.prog.info? 4).bind (·.zero) = some (.bool false) := by kernel_rfl
theorem zero83 : (Tryz.prog.info? 83).bind (·.zero) = some (.agg #[.int .i64 0, .int .i64 0, .int .i64 0]) := by kernel_rfl
instance : Fld Tryz.prog 83 0 0 := ⟨⟨_, _, _, Tryz.underlying83, rfl, size81, rfl⟩⟩
instance : Fld Tryz.prog 83 1 2 := ⟨⟨_, _, _, Tryz.underlying83, rfl, size3, rfl⟩⟩
instance : Siz Tryz.prog 83 3 := ⟨size83⟩
instance : Sli Tryz.prog 78 83 := ⟨Tryz.underlying78⟩
instance : Zer Tryz.prog 3 [int .i64 0] := ⟨⟨_, zero3, rfl⟩⟩
instance : Zer Tryz.prog 4 [Value.bool false] := ⟨⟨_, zero4, rfl⟩⟩
instance : Zer Tryz.prog 83 [int .i64 0, int .i64 0, int .i64 0] := ⟨⟨_, zero83, rfl⟩⟩
theorem upTo_iter (p1 p2 gt m : Nat) (Ts : List TV) (q : Int) (hq : -9223372036854775808 ≤ q ∧ q ≤ 9223372036854775807) (hm : m ≤ 1000000000) (hnum : ∀ t ∈ Ts, (-9223372036854775808 ≤ t.o ∧ t.o ≤ 9223372036854775807) ∧ (-9223372036854775808 ≤ t.l ∧ t.l ≤ 9223372036854775807) ∧ t.x ≤ 9223372036854775807) (w0 : World) (hc0 : CapT w0 p1 p2 gt m Ts q) : IterC Fence.wide 2 Tryz.prog 112 #[.pointer (some ⟨p1, 0, none⟩), .pointer (some ⟨p2, 0, none⟩)] (fun i => #[encP (upF Ts q) i]) (upF Ts q).length 0 (capK p1 p2 gt) w0 := by
 intro l J Jx W hW hJ hJx hY hJ0
 have hc : CapT W p1 p2 gt m Ts q := hc0.keep (fun k hk => hW.block k (hc0.lt hk)) hW.size
 have hc1 := hc.h1
 have hc2 := hc.h2
 have hc3 := hc.h3
 show CallsIn Fence.wide 2 Tryz.prog 112 #[.func (.yield l) #[] #[], .pointer (some ⟨p1, 0, none⟩), .pointer (some ⟨p2, 0, none⟩)] W _
 refine callsIn_from (args := [.func (.yield l) #[] #[], .pointer (some ⟨p1, 0, none⟩), .pointer (some ⟨p2, 0, none⟩)]) Tryz.func112 rfl Tryz.ntmps112 (by simp) ?_
 refine qC [0, 1, 2] ?_
 iterate 2 refine gx ?_
 refine qB (qA rfl) rfl (qJ rfl agg78 rfl (qp hc.s hc.h1 qF)) ?_
 iterate 5 refine gx ?_
 refine TC.loopW (ι := Nat × World) (fun y => y.2) (fun y => [(0, .func (.yield l) #[] #[]), (1, .pointer (some ⟨p1, 0, none⟩)), (2, .pointer (some ⟨p2, 0, none⟩)), (6, .slice (some ⟨gt, 0, none⟩) m m), (7, .int .i64 (m : Int)), (8, .int .i64 (y.1 : Int))]) (fun y => []) (fun y => m - y.1) (fun y => y.1 ≤ m ∧ J (cntT Ts q y.1) y.2 ∧ CapT y.2 p1 p2 gt m Ts q ∧ W.heap.size ≤ y.2.heap.size) (0, W) ⟨Nat.zero_le _, hJ0, hc, Nat.le_refl _⟩ (qH (i := 0) rfl (qH (i := 1) rfl (qH (i := 2) rfl (qL (i := 6) rfl rfl (by first | omega | (dsimp only; omega) | rfl) (by first | omega | (dsimp only; omega) | rfl) (qE (i := 7) rfl (by first | omega | rfl) (qE (i := 8) rfl rfl (qK))))))) (fun w h => h) (fun y hC0 => ?_)
 obtain ⟨k, v⟩ := y
 obtain ⟨hk, hj, hc, hsz⟩ := hC0
 dsimp only at hk hj hc hsz
 change TC _ _ _ v _ _ _
 have hc1 := hc.h1
 have hc2 := hc.h2
 have hc3 := hc.h3
 iterate 6 refine gx ?_
 refine qQ rfl (fun hq0 => ?_) (fun hq0 => ?_)
 ·obtain ⟨x, hkx⟩ : ∃ x, Ts[k]? = some x := ⟨_, List.getElem?_eq_getElem (by have := hc.l; omega)⟩
  have hnx := hnum x (List.mem_of_getElem? hkx)
  iterate 6 refine gx ?_
  refine qB (qA rfl) rfl (qW rfl Tryz.underlying78 size83 rfl rfl (i := k) (by omega) (by omega) (off' := (3 * k)) (by omega)) ?_
  refine qB (qA rfl) rfl (qh rfl agg83 size83 rfl rfl (Row.old (fun jj u h => hc.row hkx h) hc.h3 qF)) ?_
  refine qb (fun g1 hg1 => ?_)
  iterate 3 refine gx ?_
  refine qC [0, 1, 2, 5, 6, 7, 8] ?_
  iterate 4 refine gx ?_
  refine qB (qA rfl) rfl (qJ rfl agg3 rfl (qp hc.x hc.h2 (qD (by show g1 ≠ p2; omega) qF))) ?_
  refine gx ?_
  by_cases hx : (x.x : Int) ≤ q
  ·refine qB (qA rfl) rfl (qi (qV rfl rfl) hx) ?_
   iterate 2 refine gx ?_
   refine qB (qM rfl rfl rfl) rfl (qh rfl agg81 size81 rfl (vs := [int .i64 x.o, int .i64 x.l]) rfl (Row.part (i := 0) (ent := ⟨g1, 83, [int .i64 x.o, int .i64 x.l, int .i64 (x.x : Int)], 3⟩) rfl rfl rfl)) ?_
   refine TL.yield rfl (qM rfl rfl rfl) rfl rfl rfl rfl (T := fun v1 => J (cntT Ts q k + 1) v1 ∧ CapT v1 p1 p2 gt m Ts q ∧ W.heap.size ≤ v1.heap.size) (U := fun v1 => Jx (cntT Ts q k + 1) v1) (fun w hs => up_yield (p := pr x) hJ hY (cntT_lt hkx hx) (cntT_yes hkx hx).2 hj hc hsz hs (by intro e he; rw [List.mem_singleton.1 he]; assumption)) (fun v1 hT => ?_) (fun v1 hU => ?_)
   ·obtain ⟨hj, hc, hsz⟩ := hT
    iterate 4 refine gx ?_
    refine qC [0, 1, 2, 6, 7, 8, 22] ?_
    refine ql rfl ?_
    iterate 4 refine gx ?_
    refine qB (qA rfl) rfl (qU rfl rfl rfl (r := ((k : Int) + 1)) (w64 (by omega) (by omega))) ?_
    iterate 2 refine gx ?_
    exact TE.backW (k + 1, v1) (by show m - (k + 1) < m - k; omega) ⟨(by show k + 1 ≤ m; omega), (show J (cntT Ts q (k + 1)) v1 from by rw [(cntT_yes hkx hx).1]; exact hj), hc, hsz⟩ (qH (i := 0) rfl (qH (i := 1) rfl (qH (i := 2) rfl (qL (i := 6) rfl rfl (by first | omega | (dsimp only; omega) | rfl) (by first | omega | (dsimp only; omega) | rfl) (qE (i := 7) rfl (by first | omega | rfl) (qE (i := 8) rfl rfl (qK))))))) (fun w h => h)
   ·iterate 4 refine gx ?_
    refine qC [0, 1, 2, 6, 7, 8, 22] ?_
    refine qq rfl ?_
    iterate 5 refine gx ?_
    exact TE.ret0 rfl (fun w hs => ⟨⟨_, rfl⟩, .inr ⟨cntT Ts q k, cntT_lt hkx hx, hJx _ _ _ hU (St.beside0 hs (by intro e he; cases he))⟩⟩)
  ·refine qB (qA rfl) rfl (qg (qV rfl rfl) hx) ?_
   iterate 8 refine gx ?_
   refine qC [0, 1, 2, 6, 7, 8, 22] ?_
   refine ql rfl ?_
   iterate 4 refine gx ?_
   refine qB (qA rfl) rfl (qU rfl rfl rfl (r := ((k : Int) + 1)) (w64 (by omega) (by omega))) ?_
   iterate 2 refine gx ?_
   exact TE.backW (k + 1, v) (by show m - (k + 1) < m - k; omega) ⟨(by show k + 1 ≤ m; omega), (show J (cntT Ts q (k + 1)) v from by rw [cntT_no hkx hx]; exact hj), hc, hsz⟩ (qH (i := 0) rfl (qH (i := 1) rfl (qH (i := 2) rfl (qL (i := 6) rfl rfl (by first | omega | (dsimp only; omega) | rfl) (by first | omega | (dsimp only; omega) | rfl) (qE (i := 7) rfl (by first | omega | rfl) (qE (i := 8) rfl rfl (qK))))))) (fun w h => (h.drop (by assumption)))
 ·iterate 4 refine gx ?_
  exact TE.end0 rfl (fun w hs => ⟨⟨_, rfl⟩, .inl (hJ _ _ _ (show J (upF Ts q).length v from by rw [← cntT_all (m := k) (by have := hc.l; omega)]; exact hj) (St.beside0 hs (by intro e he; cases he)))⟩)
theorem upTo_c (gt m : Nat) (q : Int) (w : World) : Calls Tryz.prog 92 #[.slice (some ⟨gt, 0, none⟩) m m, .int .i64 q] w fun e w' => ∃ y : Nat × Nat, e = .returned (.func (.func 112) #[] #[.pointer (some ⟨y.1, 0, none⟩), .pointer (some ⟨y.2, 0, none⟩)]) ∧ (w.heap.size ≤ y.1 ∧ w.heap.size ≤ y.2) ∧ St w [⟨y.1, 78, [slice (some ⟨gt, 0, none⟩) m m], 1⟩, ⟨y.2, 3, [int .i64 q], 1⟩] w' := by
 refine qP (args := [.slice (some ⟨gt, 0, none⟩) m m, .int .i64 q]) Tryz.func92 rfl Tryz.ntmps92 (by simp) ?_
 refine qC [0, 1] ?_
 iterate 2 refine gx ?_
 refine TL.bx1 (fun g1 hg1 => ?_)
 refine TL.bx1 (fun g2 hg2 => ?_)
 iterate 5 refine gx ?_
 refine qB (qA rfl) rfl (Gets.makeFunc rfl rfl rfl) ?_
 iterate 4 refine gx ?_
 exact qN rfl rfl (fun w hs => ⟨(g1, g2), rfl, ⟨by assumption, by assumption⟩, hs.perm (List.Perm.swap _ _ _)⟩)
theorem overlap_c (p1 p2 gt m : Nat) (Ts : List TV) (q : Int) (hq : -9223372036854775808 ≤ q ∧ q ≤ 9223372036854775807) (hm : m ≤ 1000000000) (hnum : ∀ t ∈ Ts, (-9223372036854775808 ≤ t.o ∧ t.o ≤ 9223372036854775807) ∧ (-9223372036854775808 ≤ t.l ∧ t.l ≤ 9223372036854775807) ∧ t.x ≤ 9223372036854775807) (n : Int) (hn0 : 0 ≤ n ∧ n ≤ 4611686018427387903) (hpos : posF (upF Ts q)) (hend : ∀ p ∈ upF Ts q, p.1 + p.2 ≤ n) (w : World) (hc : CapT w p1 p2 gt m Ts q) : Calls Tryz.prog 91 #[.func (.func 112) #[] #[.pointer (some ⟨p1, 0, none⟩), .pointer (some ⟨p2, 0, none⟩)]] w fun e w' => e = .returned (.bool (decide (ovF (upF Ts q)))) ∧ St w [] w' := by
 have hc1 := hc.h1
 have hc2 := hc.h2
 have hc3 := hc.h3
 refine calls_fromM (args := [.func (.func 112) #[] #[.pointer (some ⟨p1, 0, none⟩), .pointer (some ⟨p2, 0, none⟩)]]) Tryz.func91 rfl Tryz.ntmps91 (by simp) ?_
 refine qC [0] ?_
 iterate 2 refine gx ?_
 refine qb (fun g1 hg1 => ?_)
 iterate 4 refine gx ?_
 refine qb (fun g2 hg2 => ?_)
 refine qy (qA rfl) rfl rfl size3 rfl rfl rfl (i := 0) rfl rfl (by simp [] <;> omega) (cs' := [int .i64 0]) (rfl) (H' := [⟨g2, 3, [int .i64 0], 1⟩, ⟨g1, 4, [Value.bool false], 1⟩]) rfl ?_
 iterate 9 refine gx ?_
 refine TC.range (V := fun i => .agg ([int .i64 ((eP (upF Ts q) i).1), int .i64 ((eP (upF Ts q) i).2)]).toArray) (N := (upF Ts q).length) (c := 0) (Cap := capK p1 p2 gt) rfl rfl rfl rfl enters112 (fun w hs => upTo_iter p1 p2 gt m Ts q hq hm hnum w (hc.at_ hs (fun b hb => (qD (by show g2 ≠ b; omega) (qD (by show g1 ≠ b; omega) qF))))) (fun i => ∀ j r, j < i → (upF Ts q)[j]? = some r → endF (upF Ts q) j ≤ r.1) (fun i => [⟨g2, 3, [int .i64 (endF (upF Ts q) i)], 1⟩, ⟨g1, 4, [Value.bool false], 1⟩]) [] (fun i y => [(2, .pointer (some ⟨g1, 0, none⟩)), (3, .pointer (some ⟨g2, 0, none⟩)), (4, .pointer (some ⟨y, 0, none⟩))]) (fun i y => [⟨y, 81, [int .i64 ((eP (upF Ts q) i).1), int .i64 ((eP (upF Ts q) i).2)], 2⟩]) (fun i => ovF (upF Ts q)) (fun i => [⟨g2, 3, [int .i64 (endF (upF Ts q) (i - 1))], 1⟩, ⟨g1, 4, [Value.bool true], 1⟩]) 0 (fun i => False) (fun i => [⟨g2, 3, [int .i64 (endF (upF Ts q) i)], 1⟩, ⟨g1, 4, [Value.bool false], 1⟩]) (fun j r h => absurd h (Nat.not_lt_zero j)) (fun w h => h) (fun _ => rfl) (fun _ => rfl) (fun _ => rfl) (fun w hs k hk => ⟨Nat.lt_of_lt_of_le (hc.lt hk) hs.size, (have hb := hc.lt hk; (qD (by show g2 ≠ k; omega) (qD (by show g1 ≠ k; omega) qF)))⟩) (fun i y e he => by rw [List.mem_singleton.1 he]; exact Nat.le_refl _) (fun l i v hiN hC hs0 => ?_) (fun l i y v hiN hC hy hyv hs0 => ?_) (fun D W hC hW hM => ?_) (fun D W i hiN hC hW hM => ?_) (fun D W i hiN hC hW hM => ?_)
 ·refine TC.sub (qH (i := 2) rfl (qH (i := 3) rfl (qH (i := 6) rfl (qK)))) ?_
  refine gx ?_
  refine qb (fun g3 hg3 => ?_)
  iterate 2 refine gx ?_
  exact TE.ax g3 hg3 (fun w hs => Nat.le_of_lt (hs.has _ List.mem_cons_self).lt) (qH (i := 2) rfl (qH (i := 3) rfl (qH (i := 4) rfl (qK)))) (fun w h => h)
 ·have hqq := eP_at hiN
  have hqp := hpos _ (List.mem_of_getElem? hqq)
  have hqn := hend _ (List.mem_of_getElem? hqq)
  have heb := endF_bd hpos hend hn0.1 i
  iterate 10 refine gx ?_
  refine qQ rfl (fun hq0 => ?_) (fun hq0 => ?_)
  ·iterate 2 refine gx ?_
   refine qy (qA rfl) rfl rfl size4 rfl rfl rfl (i := 2) rfl rfl (by simp [] <;> omega) (cs' := [Value.bool true]) (rfl) (H' := [⟨y, 81, [int .i64 ((eP (upF Ts q) i).1), int .i64 ((eP (upF Ts q) i).2)], 2⟩, ⟨g2, 3, [int .i64 (endF (upF Ts q) i)], 1⟩, ⟨g1, 4, [Value.bool true], 1⟩]) rfl ?_
   iterate 5 refine gx ?_
   exact TE.roundR ⟨i, _, hqq, hq0⟩ [⟨y, 81, [int .i64 ((eP (upF Ts q) i).1), int .i64 ((eP (upF Ts q) i).2)], 2⟩] (by intro e he; simp only [List.mem_cons, List.not_mem_nil, or_false] at he; subst he; first | exact Nat.le_refl _ | (dsimp only; omega)) (fun w h => h)
  ·iterate 4 refine gx ?_
   refine qR (qA rfl) rfl enters72 rfl rfl (v := .int .i64 (((eP (upF Ts q) i).1) + ((eP (upF Ts q) i).2))) (fun w hs => end_c ((eP (upF Ts q) i).1) ((eP (upF Ts q) i).2) (by omega) w) ?_
   refine qy (qA rfl) rfl rfl size3 rfl rfl rfl (i := 1) rfl rfl (by simp [] <;> omega) (cs' := [int .i64 (((eP (upF Ts q) i).1) + ((eP (upF Ts q) i).2))]) (rfl) (H' := [⟨y, 81, [int .i64 ((eP (upF Ts q) i).1), int .i64 ((eP (upF Ts q) i).2)], 2⟩, ⟨g2, 3, [int .i64 (((eP (upF Ts q) i).1) + ((eP (upF Ts q) i).2))], 1⟩, ⟨g1, 4, [Value.bool false], 1⟩]) rfl ?_
   iterate 2 refine gx ?_
   exact TE.roundN (nov_succ hC hqq hq0) [⟨y, 81, [int .i64 ((eP (upF Ts q) i).1), int .i64 ((eP (upF Ts q) i).2)], 2⟩] (by intro e he; simp only [List.mem_cons, List.not_mem_nil, or_false] at he; subst he; first | exact Nat.le_refl _ | (dsimp only; omega)) (fun w h => by rw [endF_succ hqq]; exact h)
 ·have hno := nov_end hC
  iterate 4 refine gx ?_
  refine qy (qA rfl) rfl rfl size4 rfl rfl rfl (i := 1) rfl rfl (by simp [] <;> omega) (cs' := [Value.bool false]) (rfl) (H' := [⟨g2, 3, [int .i64 (endF (upF Ts q) ((upF Ts q).length))], 1⟩, ⟨g1, 4, [Value.bool false], 1⟩]) rfl ?_
  iterate 3 refine gx ?_
  refine TE.markR hM hW (by intro e he; simp only [List.mem_cons, List.not_mem_nil, or_false, List.cons_append, List.nil_append, List.append_nil] at he; rcases he with rfl | rfl <;> (first | assumption | (dsimp only; omega))) (by intro e he; simp only [List.mem_cons, List.not_mem_nil, or_false, List.cons_append, List.nil_append, List.append_nil] at he; rcases he with rfl | rfl <;> (first | exact .inr (by simp) | exact .inl (by assumption) | exact .inl (by dsimp only; omega))) ?_ (.inl rfl)
  exact TE.retC1 rfl agg4 rfl (qO (i := 1) (ent := ⟨g1, 4, [Value.bool false], 1⟩) (off := 0) rfl rfl (by exact rfl)) (fun w hs => ⟨dec_f hno, ((hs.drop (by assumption)).drop (by assumption))⟩) (.inl rfl)
 ·iterate 2 refine gx ?_
  refine TE.markR hM hW (by intro e he; simp only [List.mem_cons, List.not_mem_nil, or_false, List.cons_append, List.nil_append, List.append_nil] at he; rcases he with rfl | rfl <;> (first | assumption | (dsimp only; omega))) (by intro e he; simp only [List.mem_cons, List.not_mem_nil, or_false, List.cons_append, List.nil_append, List.append_nil] at he; rcases he with rfl | rfl <;> (first | exact .inr (by simp) | exact .inl (by assumption) | exact .inl (by dsimp only; omega))) ?_ (.inl rfl)
  exact TE.retC1 rfl agg4 rfl (qO (i := 1) (ent := ⟨g1, 4, [Value.bool true], 1⟩) (off := 0) rfl rfl (by exact rfl)) (fun w hs => ⟨dec_t hC, ((hs.drop (by assumption)).drop (by assumption))⟩) (.inl rfl)
 ·exact hC.elim
theorem gap_c (p1 p2 gt m : Nat) (Ts : List TV) (q : Int) (hq : -9223372036854775808 ≤ q ∧ q ≤ 9223372036854775807) (hm : m ≤ 1000000000) (hnum : ∀ t ∈ Ts, (-9223372036854775808 ≤ t.o ∧ t.o ≤ 9223372036854775807) ∧ (-9223372036854775808 ≤ t.l ∧ t.l ≤ 9223372036854775807) ∧ t.x ≤ 9223372036854775807) (n : Int) (hn0 : 0 ≤ n ∧ n ≤ 4611686018427387903) (hpos : posF (upF Ts q)) (hend : ∀ p ∈ upF Ts q, p.1 + p.2 ≤ n) (w : World) (hc : CapT w p1 p2 gt m Ts q) : Calls Tryz.prog 93 #[.func (.func 112) #[] #[.pointer (some ⟨p1, 0, none⟩), .pointer (some ⟨p2, 0, none⟩)]] w fun e w' => ∃ z : Int, e = .returned (.int .i64 z) ∧ gapR (upF Ts q) z ∧ St w [] w' := by
 have hc1 := hc.h1
 have hc2 := hc.h2
 have hc3 := hc.h3
 refine calls_fromM (args := [.func (.func 112) #[] #[.pointer (some ⟨p1, 0, none⟩), .pointer (some ⟨p2, 0, none⟩)]]) Tryz.func93 rfl Tryz.ntmps93 (by simp) ?_
 refine qC [0] ?_
 iterate 7 refine gx ?_
 refine qb (fun g1 hg1 => ?_)
 refine qy (qA rfl) rfl rfl size3 rfl rfl rfl (i := 0) rfl rfl (by simp [] <;> omega) (cs' := [int .i64 0]) (rfl) (H' := [⟨g1, 3, [int .i64 0], 1⟩]) rfl ?_
 iterate 9 refine gx ?_
 refine TC.range (V := fun i => .agg ([int .i64 ((eP (upF Ts q) i).1), int .i64 ((eP (upF Ts q) i).2)]).toArray) (N := (upF Ts q).length) (c := 0) (Cap := capK p1 p2 gt) rfl rfl rfl rfl enters112 (fun w hs => upTo_iter p1 p2 gt m Ts q hq hm hnum w (hc.at_ hs (fun b hb => (qD (by show g1 ≠ b; omega) qF)))) (fun i => ∀ j r, j < i → (upF Ts q)[j]? = some r → r.1 ≤ endF (upF Ts q) j) (fun i => [⟨g1, 3, [int .i64 (endF (upF Ts q) i)], 1⟩]) [] (fun i y => [(3, .pointer (some ⟨g1, 0, none⟩)), (4, .pointer (some ⟨y, 0, none⟩))]) (fun i y => [⟨y, 81, [int .i64 ((eP (upF Ts q) i).1), int .i64 ((eP (upF Ts q) i).2)], 2⟩]) (fun i => False) (fun i => [⟨g1, 3, [int .i64 (endF (upF Ts q) i)], 1⟩]) 0 (fun i => gapR (upF Ts q) (endF (upF Ts q) (i - 1))) (fun i => [⟨g1, 3, [int .i64 (endF (upF Ts q) (i - 1))], 1⟩]) (fun j r h => absurd h (Nat.not_lt_zero j)) (fun w h => h) (fun _ => rfl) (fun _ => rfl) (fun _ => rfl) (fun w hs k hk => ⟨Nat.lt_of_lt_of_le (hc.lt hk) hs.size, (have hb := hc.lt hk; (qD (by show g1 ≠ k; omega) qF))⟩) (fun i y e he => by rw [List.mem_singleton.1 he]; exact Nat.le_refl _) (fun l i v hiN hC hs0 => ?_) (fun l i y v hiN hC hy hyv hs0 => ?_) (fun D W hC hW hM => ?_) (fun D W i hiN hC hW hM => ?_) (fun D W i hiN hC hW hM => ?_)
 ·refine TC.sub (qH (i := 3) rfl (qH (i := 6) rfl (qK))) ?_
  refine gx ?_
  refine qb (fun g2 hg2 => ?_)
  iterate 2 refine gx ?_
  exact TE.ax g2 hg2 (fun w hs => Nat.le_of_lt (hs.has _ List.mem_cons_self).lt) (qH (i := 3) rfl (qH (i := 4) rfl (qK))) (fun w h => h)
 ·have hqq := eP_at hiN
  have hqp := hpos _ (List.mem_of_getElem? hqq)
  have hqn := hend _ (List.mem_of_getElem? hqq)
  have heb := endF_bd hpos hend hn0.1 i
  iterate 10 refine gx ?_
  refine qQ rfl (fun hq0 => ?_) (fun hq0 => ?_)
  ·iterate 2 refine gx ?_
   refine TE.blockY rfl ?_
   exact TE.roundB ⟨i, Nat.le_of_lt hiN, rfl, hC, .inr ⟨_, hqq, hq0⟩⟩ [⟨y, 81, [int .i64 ((eP (upF Ts q) i).1), int .i64 ((eP (upF Ts q) i).2)], 2⟩] (by intro e he; simp only [List.mem_cons, List.not_mem_nil, or_false] at he; subst he; first | exact Nat.le_refl _ | (dsimp only; omega)) (fun w h => h)
  ·iterate 4 refine gx ?_
   refine qR (qA rfl) rfl enters72 rfl rfl (v := .int .i64 (((eP (upF Ts q) i).1) + ((eP (upF Ts q) i).2))) (fun w hs => end_c ((eP (upF Ts q) i).1) ((eP (upF Ts q) i).2) (by omega) w) ?_
   refine qy (qA rfl) rfl rfl size3 rfl rfl rfl (i := 1) rfl rfl (by simp [] <;> omega) (cs' := [int .i64 (((eP (upF Ts q) i).1) + ((eP (upF Ts q) i).2))]) (rfl) (H' := [⟨y, 81, [int .i64 ((eP (upF Ts q) i).1), int .i64 ((eP (upF Ts q) i).2)], 2⟩, ⟨g1, 3, [int .i64 (((eP (upF Ts q) i).1) + ((eP (upF Ts q) i).2))], 1⟩]) rfl ?_
   iterate 2 refine gx ?_
   exact TE.roundN (ngap_succ hC hqq hq0) [⟨y, 81, [int .i64 ((eP (upF Ts q) i).1), int .i64 ((eP (upF Ts q) i).2)], 2⟩] (by intro e he; simp only [List.mem_cons, List.not_mem_nil, or_false] at he; subst he; first | exact Nat.le_refl _ | (dsimp only; omega)) (fun w h => by rw [endF_succ hqq]; exact h)
 ·have hG : gapR (upF Ts q) (endF (upF Ts q) (upF Ts q).length) := ⟨_, Nat.le_refl _, rfl, hC, .inl rfl⟩
  iterate 9 refine gx ?_
  refine TE.markR hM hW (by intro e he; simp only [List.mem_cons, List.not_mem_nil, or_false, List.cons_append, List.nil_append, List.append_nil] at he; subst he; first | assumption | (dsimp only; omega)) (by intro e he; simp only [List.mem_cons, List.not_mem_nil, or_false, List.cons_append, List.nil_append, List.append_nil] at he; subst he; first | exact .inr (by simp) | exact .inl (by assumption) | exact .inl (by dsimp only; omega)) ?_ (.inl rfl)
  exact qN rfl rfl (fun w hs => ⟨_, rfl, hG, (hs.drop (by assumption))⟩)
 ·exact hC.elim
 ·have hG : gapR (upF Ts q) (endF (upF Ts q) i) := hC
  iterate 9 refine gx ?_
  refine TE.markR hM hW (by intro e he; simp only [List.mem_cons, List.not_mem_nil, or_false, List.cons_append, List.nil_append, List.append_nil] at he; subst he; first | assumption | (dsimp only; omega)) (by intro e he; simp only [List.mem_cons, List.not_mem_nil, or_false, List.cons_append, List.nil_append, List.append_nil] at he; subst he; first | exact .inr (by simp) | exact .inl (by assumption) | exact .inl (by dsimp only; omega)) ?_ (.inl rfl)
  exact qN rfl rfl (fun w hs => ⟨_, rfl, hG, (hs.drop (by assumption))⟩)
end Go.Proofs.YtegddcklbmonfaaGreatDoor
/-
 DERIVED: THE SHELF's CONTRACTS AT THIS DUMP, IN PLAIN WORDS (tools/lay-plain.mjs out of 'YtegddcklbmonfaaGreatDoorLayS.lean', which tools/lay-shelf.mjs wrote): THE SAME DECLARATIONS UNDER THE SAME NAMES: 'import', 'namespace', 'open', 'def', 'theorem' AND NOTHING ELSE: no command of the shelf's: FOR A HAND-IN. Each laying: the table of numbers ('.._ren') and one theorem, a field a fact of the dump's own or the kernel's comparison; each contract: ONE APPLICATION.
-/
namespace Go.Proofs
open Go.Shelf
def Tryz.sortT_ren : Go.Shelf.Ren := ⟨fun | 6 => 78 | 15 => 106 | 14 => 105 | 28 => 125 | 29 => 126 | 20 => 117 | 21 => 118 | 22 => 119 | 23 => 120 | 24 => 121 | 25 => 122 | 26 => 123 | 27 => 124 | 46 => 132 | 47 => 133 | 48 => 134 | 49 => 135 | 50 => 136 | 57 => 138 | n => n, fun | 22 => 78 | 24 => 83 | 25 => 117 | 3 => 3 | 39 => 126 | 0 => 0 | 53 => 96 | 55 => 73 | 4 => 4 | 46 => 160 | 45 => 159 | 50 => 112 | 5 => 5 | 9 => 9 | 66 => 171 | 70 => 175 | 76 => 177 | 77 => 32 | n => n, fun | n => n⟩
theorem Tryz.sortT : Go.Proofs.SlLaysF0.n6 Tryz.prog Tryz.sortT_ren := {
 mixed := by kernel_rfl
 f6 := ⟨Tryz.f78.name, by decide, Tryz.func78.trans (congrArg some (by kernel_rfl))⟩
 f14 := ⟨Tryz.f105.name, by decide, Tryz.func105.trans (congrArg some (by kernel_rfl))⟩
 f15 := Tryz.func106.trans (congrArg some (by kernel_rfl))
 f20 := ⟨Tryz.f117.name, by decide, Tryz.func117.trans (congrArg some (by kernel_rfl))⟩
 f21 := ⟨Tryz.f118.name, by decide, Tryz.func118.trans (congrArg some (by kernel_rfl))⟩
 f22 := ⟨Tryz.f119.name, by decide, Tryz.func119.trans (congrArg some (by kernel_rfl))⟩
 f23 := ⟨Tryz.f120.name, by decide, Tryz.func120.trans (congrArg some (by kernel_rfl))⟩
 f24 := ⟨Tryz.f121.name, by decide, Tryz.func121.trans (congrArg some (by kernel_rfl))⟩
 f25 := ⟨Tryz.f122.name, by decide, Tryz.func122.trans (congrArg some (by kernel_rfl))⟩
 f26 := ⟨Tryz.f123.name, by decide, Tryz.func123.trans (congrArg some (by kernel_rfl))⟩
 f27 := ⟨Tryz.f124.name, by decide, Tryz.func124.trans (congrArg some (by kernel_rfl))⟩
 f28 := Tryz.func125.trans (congrArg some (by kernel_rfl))
 f29 := Tryz.func126.trans (congrArg some (by kernel_rfl))
 f46 := ⟨Tryz.f132.name, by decide, Tryz.func132.trans (congrArg some (by kernel_rfl))⟩
 f47 := Tryz.func133.trans (congrArg some (by kernel_rfl))
 f48 := Tryz.func134.trans (congrArg some (by kernel_rfl))
 f49 := ⟨Tryz.f135.name, by decide, Tryz.func135.trans (congrArg some (by kernel_rfl))⟩
 f50 := ⟨Tryz.f136.name, by decide, Tryz.func136.trans (congrArg some (by kernel_rfl))⟩
 f57 := ⟨Tryz.f138.name, by decide, Tryz.func138.trans (congrArg some (by kernel_rfl))⟩
 t0 := Tryz.underlying0
 a0 := Tryz.isAgg0
 z0 := Tryz.sizeOf0
 v0 := Tryz.zeroValue0
 t3 := Tryz.underlying3
 a3 := Tryz.isAgg3
 z3 := Tryz.sizeOf3
 v3 := Tryz.zeroValue3
 t4 := Tryz.underlying4
 a4 := Tryz.isAgg4
 z4 := Tryz.sizeOf4
 v4 := Tryz.zeroValue4
 t5 := Tryz.underlying5
 a5 := Tryz.isAgg5
 z5 := Tryz.sizeOf5
 v5 := Tryz.zeroValue5
 t9 := Tryz.underlying9
 a9 := Tryz.isAgg9
 z9 := Tryz.sizeOf9
 v9 := Tryz.zeroValue9
 t22 := Tryz.underlying78
 a22 := Tryz.isAgg78
 z22 := Tryz.sizeOf78
 v22 := Tryz.zeroValue78
 t25 := Tryz.underlying117
 a25 := Tryz.isAgg117
 z25 := Tryz.sizeOf117
 v25 := Tryz.zeroValue117
 t39 := Tryz.underlying126
 a39 := Tryz.isAgg126
 z39 := Tryz.sizeOf126
 v39 := Tryz.zeroValue126
 t45 := Tryz.underlying159
 a45 := Tryz.isAgg159
 z45 := Tryz.sizeOf159
 v45 := Tryz.zeroValue159
 t46 := Tryz.underlying160
 a46 := Tryz.isAgg160
 z46 := Tryz.sizeOf160
 v46 := Tryz.zeroValue160
 t50 := Tryz.underlying112
 a50 := Tryz.isAgg112
 z50 := Tryz.sizeOf112
 v50 := Tryz.zeroValue112
 t53 := Tryz.underlying96
 a53 := Tryz.isAgg96
 z53 := Tryz.sizeOf96
 v53 := Tryz.zeroValue96
 t55 := Tryz.underlying73
 a55 := Tryz.isAgg73
 z55 := Tryz.sizeOf73
 v55 := Tryz.zeroValue73
 t66 := Tryz.underlying171
 a66 := Tryz.isAgg171
 z66 := Tryz.sizeOf171
 v66 := Tryz.zeroValue171
 t70 := Tryz.underlying175
 a70 := Tryz.isAgg175
 z70 := Tryz.sizeOf175
 v70 := Tryz.zeroValue175
 t76 := Tryz.underlying177
 a76 := Tryz.isAgg177
 z76 := Tryz.sizeOf177
 v76 := Tryz.zeroValue177
 t77 := Tryz.underlying32
 a77 := Tryz.isAgg32
 z77 := Tryz.sizeOf32
 v77 := Tryz.zeroValue32 }
def Tryz.cmpI_ren : Go.Shelf.Ren := ⟨fun | 5 => 80 | 7 => 107 | n => n, fun | 22 => 3 | 3 => 3 | 4 => 4 | n => n, fun | n => n⟩
theorem Tryz.cmpI : Go.Proofs.SlLaysC2.n5 Tryz.prog Tryz.cmpI_ren := {
 mixed := by kernel_rfl
 f5 := ⟨Tryz.f80.name, by decide, Tryz.func80.trans (congrArg some (by kernel_rfl))⟩
 f7 := ⟨Tryz.f107.name, by decide, Tryz.func107.trans (congrArg some (by kernel_rfl))⟩
 t3 := Tryz.underlying3
 a3 := Tryz.isAgg3
 z3 := Tryz.sizeOf3
 v3 := Tryz.zeroValue3
 t4 := Tryz.underlying4
 a4 := Tryz.isAgg4
 z4 := Tryz.sizeOf4
 v4 := Tryz.zeroValue4
 t22 := Tryz.underlying3
 a22 := Tryz.isAgg3
 z22 := Tryz.sizeOf3
 v22 := Tryz.zeroValue3 }
end Go.Proofs
/-
 slices.SortFunc at targets, over blocks that are known.
-/
namespace Go.Proofs.YtegddcklbmonfaaGreatDoor
set_option linter.unusedVariables false
set_option linter.unusedSimpArgs false
set_option maxRecDepth 100000
set_option maxHeartbeats 2000000
open Go.Value (int slice)
open Go Go.RowKit Go.Shelf Go.Lib Go.Sort
theorem flatK_flatT (Ts : List TV) : (flatK cellsT 3 Ts.toArray).toList = flatT Ts := by
 apply List.ext_getElem?
 intro t
 by_cases ht : t < Ts.length * 3
 ·have hi : t / 3 < Ts.length := by omega
  have hr : t % 3 < 3 := Nat.mod_lt _ (by omega)
  have h1 : (flatK cellsT 3 Ts.toArray).toList[t]? = some ((cellsT Ts.toArray[t / 3]!)[t % 3]!) := by
   have := get_flatK cellsT 3 Ts.toArray t (by simpa using ht)
   rw [Array.getElem?_toList, ← this]
   rw [Array.getElem?_eq_getElem (by simpa using ht), getElem!_pos _ _ (by simpa using ht)]
  have h2 : Ts.toArray[t / 3]! = Ts[t / 3] := by
   rw [getElem!_pos _ _ (by simpa using hi)]; simp
  rw [h1, h2]
  have hx : Ts[t / 3]? = some Ts[t / 3] := List.getElem?_eq_getElem hi
  have hu : (cellsT Ts[t / 3])[t % 3]? = some ((cellsT Ts[t / 3])[t % 3]'(by rw [cellsT_len]; exact hr)) := List.getElem?_eq_getElem _
  have h3 := flatT_get hx hu
  rw [show 3 * (t / 3) + t % 3 = t by omega] at h3
  rw [h3, getElem!_pos _ _ (by rw [cellsT_len]; exact hr)]
 ·rw [List.getElem?_eq_none (by simp; omega), List.getElem?_eq_none (by rw [flatT_len]; omega)]
theorem holds_entT {w : World} {g t tot : Nat} {Ts : List TV} (h : Ent.lies ⟨g, t, flatT Ts, tot⟩ w) : HoldsK cellsT 3 w g 0 Ts.toArray := fun j hj => by
 obtain ⟨cur, h1, h2, h3⟩ := h
 have hj' : j < (flatK cellsT 3 Ts.toArray).size := hj
 have hfl : (flatT Ts)[j]? = some (flatK cellsT 3 Ts.toArray)[j]! := by
  rw [← flatK_flatT, Array.getElem?_toList, Array.getElem?_eq_getElem hj', getElem!_pos (flatK cellsT 3 Ts.toArray) j hj']
 refine ⟨?_, ?_⟩
 ·have := h3 j _ hfl
  simp only [id]
  rw [Nat.zero_add]
  simp [World.cell?, h1, this]
 ·simp only [World.frozen?, h1]
  simp
theorem st_sortedT {w0 w : World} {g t tot n : Nat} {Ts Es : List TV} {H : List Ent} {os : Array Obj} (hs : St w0 (⟨g, t, flatT Ts, tot⟩ :: H) w) (hl : Es.length = Ts.length) : St w0 (⟨g, t, flatT Es, tot⟩ :: H) (sortWorldK cellsT 3 w g 0 n Es.toArray os) := by
 obtain ⟨cur, h1, h2, h3⟩ := hs.has _ List.mem_cons_self
 have hg : g < w.heap.size := (Array.getElem?_eq_some_iff.1 h1).1
 let W := sortWorldK cellsT 3 w g 0 n Es.toArray os
 have hheap : W.heap = (w.heap.modify g (onCells (putCells id 0 (flatK cellsT 3 Es.toArray)))) ++ os := rfl
 have hother : ∀ b, b < w.heap.size → b ≠ g → W.heap[b]? = w.heap[b]? := fun b hb hne => by
  rw [hheap, Array.getElem?_append_left (by simpa using hb), Array.getElem?_modify, if_neg (fun h => hne h.symm)]
 have hhere : W.heap[g]? = some (.cells (putCells id 0 (flatK cellsT 3 Es.toArray) cur) t (0, 0)) := by
  rw [hheap, Array.getElem?_append_left (by simpa using hg), Array.getElem?_modify, if_pos rfl, h1]; rfl
 have hap := hs.apart
 refine ⟨hs.os, hs.tape, hs.output, Nat.le_trans hs.size (by show w.heap.size ≤ W.heap.size; rw [hheap]; simp), ?_, ?_, ?_⟩
 ·intro e he
  rcases List.mem_cons.1 he with rfl | he
  ·refine ⟨_, hhere, by simpa [putCells] using h2, fun j u hu => ?_⟩
   have hj := (List.getElem?_eq_some_iff.1 hu).1
   have hjs : j < (flatK cellsT 3 Es.toArray).size := by rw [size_flatK]; rw [flatT_len] at hj; simpa using hj
   have hjc : j < cur.size := by
    have hjC : j < (flatT Ts).length := by rw [flatT_len, ← hl, ← flatT_len]; exact hj
    have := h3 j _ (List.getElem?_eq_getElem hjC)
    exact (Array.getElem?_eq_some_iff.1 this).1
   rw [← flatK_flatT, Array.getElem?_toList, Array.getElem?_eq_getElem hjs] at hu
   cases hu
   simp only [putCells]
   rw [Array.getElem?_eq_getElem (by simpa using hjc)]
   simp only [Array.getElem_mapIdx]
   rw [if_pos ⟨Nat.zero_le _, by rw [Nat.zero_add]; exact hjs⟩, Nat.sub_zero, getElem!_pos (flatK cellsT 3 Es.toArray) j hjs]; rfl
  ·have hne : e.g ≠ g := fun h => (List.pairwise_cons.1 hap).1 e he h.symm
   exact (hs.has e (List.mem_cons_of_mem _ he)).of_block (hother _ (hs.has e (List.mem_cons_of_mem _ he)).lt hne)
 ·intro b hb hne
  have hbg : b ≠ g := fun h => hne _ List.mem_cons_self h.symm
  rw [hother b (Nat.lt_of_lt_of_le hb hs.size) hbg]
  exact hs.old b hb (fun e he => by
   rcases List.mem_cons.1 he with rfl | he
   ·exact fun h => hbg h.symm
   ·exact hne e (List.mem_cons_of_mem _ he))
 ·exact .cons (fun e he => (List.pairwise_cons.1 hap).1 e he) (List.pairwise_cons.1 hap).2
theorem ltOf_o (x y : TV) : ltOf (fun x y : TV => Lib.compareInt x.o y.o) x y = decide (x.o < y.o) := by
 unfold ltOf Lib.compareInt
 by_cases h1 : x.o < y.o
 ·simp [h1]
 ·by_cases h2 : y.o < x.o <;> simp [h1, h2]
theorem sorted_listT {Es : List TV} (h : SortedIn (ltOf fun x y : TV => Lib.compareInt x.o y.o) 0 Es.length Es.toArray) : Es.Pairwise leT := by
 rw [List.pairwise_iff_getElem]
 intro i j hi hj hij
 have h1 := h i j (Nat.zero_le _) hij hj
 rw [getElem!_pos Es.toArray j (by simpa using hj), getElem!_pos Es.toArray i (by simpa using hi)] at h1
 simp only [List.getElem_toArray] at h1
 rw [ltOf_o] at h1
 unfold leT
 have h2 := of_decide_eq_false h1
 omega
theorem swoO : SWO (ltOf fun x y : TV => Lib.compareInt x.o y.o) := by
 have e := ltOf_o
 exact ⟨fun x => by rw [e]; simp, fun x y z h1 h2 => by rw [e] at *; simp at *; omega, fun x y z h1 h2 => by rw [e] at *; simp at *; omega⟩
theorem perm_ofT {Ts : List TV} {d : Array TV} (h : PermIn 0 Ts.toArray.size Ts.toArray d) : d.toList.Perm Ts := by
 obtain ⟨h1, _, h3⟩ := h
 have e1 : d.extract 0 Ts.toArray.size = d := by rw [← h1]; simp
 have e2 : Ts.toArray.extract 0 Ts.toArray.size = Ts.toArray := by simp
 rw [e1, e2] at h3
 simpa using h3
theorem sortT_c {w0 w : World} {g t tot cap fc : Nat} {Ts : List TV} {H : List Ent} (hs : St w0 (⟨g, t, flatT Ts, tot⟩ :: H) w) (hlen : Ts.length < 4611686018427387904)
  (eg : ∀ args w, (callFunc fc args).run Tryz.prog w = .ok (.enter fc args) w) (hc : ∀ (x y : TV) (W : World), Calls Tryz.prog fc #[.agg (cellsT x).toArray, .agg (cellsT y).toArray] W fun e w' => e = .returned (.int .i64 (Lib.compareInt x.o y.o)) ∧ ∃ q os', w' = grow (W.drewN q) os') :
  Calls Tryz.prog 78 #[.slice (some ⟨g, 0, none⟩) Ts.length cap, .func (.func fc) #[] #[]] w fun e w' => e = .returned (.tuple #[]) ∧ ∃ Es : List TV, Es.Perm Ts ∧ Es.Pairwise leT ∧ St w0 (⟨g, t, flatT Es, tot⟩ :: H) w' := by
 have hlt := (hs.has _ List.mem_cons_self).lt
 have hcon := AnyQ.slices_SortFunc Tryz.sortT 3 (fun w => congrFun agg83 w) (run_size size83) cellsT (fun _ => rfl) (fun x v hv => flatT_one' [x] v (by rw [flatT_one]; exact hv)) (fun x y : TV => Lib.compareInt x.o y.o) swoO fc #[] g 0 cap Ts.toArray w eg (fun _ _ _ _ x y => hc x y _) (holds_entT (hs.has _ List.mem_cons_self)) hlt (by simpa using hlen)
 refine hcon.mono ?_
 rintro e w' ⟨rfl, d, n, os, hp, hq, rfl⟩
 have hsz : d.size = Ts.length := by have := hp.1; simpa using this
 have hperm := perm_ofT hp
 refine ⟨rfl, d.toList, hperm, sorted_listT (by simpa [hsz] using hq), ?_⟩
 have := st_sortedT (n := n) (os := os) (Es := d.toList) hs (by simpa using hsz)
 simpa using this
/-
 The closure that compares targets.
-/
theorem closureT_c (x y : TV) (W : World) : Calls Tryz.prog 79 #[.agg (cellsT x).toArray, .agg (cellsT y).toArray] W fun e w' => e = .returned (.int .i64 (Lib.compareInt x.o y.o)) ∧ ∃ q os', w' = grow (W.drewN q) os' := by
 have hcon := fun W' => AnyG.cmp_Compare_int Tryz.cmpI x.o y.o W'
 change ∀ W', Calls Tryz.prog 80 _ _ _ at hcon
 generalize Lib.compareInt x.o y.o = r at hcon ⊢
 show Calls Tryz.prog 79 #[.agg #[.int .i64 x.o, .int .i64 x.l, .int .i64 x.x], .agg #[.int .i64 y.o, .int .i64 y.l, .int .i64 y.x]] W _
 go_enter Tryz.func79, Tryz.ntmps79
 go_wp2_with (go_at_call 80; refine (hcon _).mono ?_; rintro e w' ⟨rfl, rfl⟩)
 go_ret
 exact ⟨rfl, 0, _, by rw [alloc_eq_grow, alloc_eq_grow, grow_grow]; rfl⟩
/-
 A slice of structs is made.
-/
open Go Go.RowKit
variable {P : Program} {ops : Array Oper} {Q : Exit → Act → World → Prop} {n : Sz} {w0 : World} {L L' : List (Nat × Value)} {H : List Ent}
variable {o : Oper} {rest : List Oper} {v u : Value} {x y z : Operand} {k m j : Nat} {t t' e : TypeId} {kd kd' : IntKind} {p q r : Int}
theorem rep_get {zs : List Value} {s : Nat} (hs : zs.length = s) : ∀ (c i : Nat), i < c * s → (List.replicate c zs).flatten[i]? = zs[i % s]?
 | 0, i, h => by omega
 | c + 1, i, h => by
  have hs0 : 0 < s := by
   rcases Nat.eq_zero_or_pos s with h0 | h0
   ·subst h0; simp at h
   ·exact h0
  rw [List.replicate_succ, List.flatten_cons]
  by_cases hi : i < s
  ·rw [List.getElem?_append_left (by omega), Nat.mod_eq_of_lt hi]
  ·rw [List.getElem?_append_right (by omega), hs, rep_get hs c (i - s) (by rw [Nat.succ_mul] at h; omega), ← Nat.mod_eq_sub_mod (by omega)]
theorem rep_len {zs : List Value} {s : Nat} (hs : zs.length = s) (c : Nat) : (List.replicate c zs).flatten.length = c * s := by
 induction c with
 | zero => simp
 | succ c ih => rw [List.replicate_succ, List.flatten_cons, List.length_append, ih, hs, Nat.succ_mul]; omega
theorem madeCellsS {zs : List Value} {s : Nat} (hs : zs.length = s) (h0 : 0 < s) (c : Nat) : ((Array.range (c * s)).map (fun i => zs.toArray[i % s]!)).toList = (List.replicate c zs).flatten := by
 apply List.ext_getElem?
 intro i
 by_cases h : i < c * s
 ·rw [rep_get hs c i h]
  have hm : i % s < zs.length := by rw [hs]; exact Nat.mod_lt _ h0
  simp only [Array.toList_map, List.getElem?_map]
  rw [Array.toList_range, List.getElem?_range h]
  rw [List.getElem?_eq_getElem hm]
  simp [hm]
 ·rw [List.getElem?_eq_none (by simp; omega), List.getElem?_eq_none (by rw [rep_len hs]; omega)]
theorem TL.makeSliceS {zv : Value} {zs : List Value} {ln cp bytes s : Nat} (hg : Wants n ops L o) (hi : inside n o.dst = true) (ho : o.op = .makeSlice t x y) (h1 : P.underlying t = some (.slice e))
  (hz : (P.info? e).map (fun i => (i.zero, i.size, i.bytes)) = some (some zv, s, bytes)) (hzc : zv.cells = zs.toArray) (hzl : zs.length = s) (hs0 : 0 < s)
  (hx : ev L x = some (.int kd p)) (hy : ev L y = some (.int kd' q)) (hp : p = (ln : Int)) (hq : q = (cp : Int)) (hle : ln ≤ cp) (hcp : cp ≤ 9223372036854775807) (hb : cp * bytes ≤ 281474976710656)
  {cs : List Value} {tot : Nat} (hcs : (List.replicate cp zs).flatten = cs) (htot : cp * s = tot)
  (hr : ∀ g, w0.heap.size ≤ g → TL P ops Q n w0 rest (put L o.dst (.slice (some ⟨g, 0, none⟩) ln cp)) (⟨g, e, cs, tot⟩ :: H)) : TL P ops Q n w0 (o :: rest) L H :=
 fun a w hf hs => wpL_wants hg.nd (hg a hf) fun K hK => by
  obtain ⟨i, hi1, hi2⟩ := Option.map_eq_some_iff.1 hz
  simp only [Prod.mk.injEq] at hi2
  obtain ⟨hz1, hz2, hz3⟩ := hi2
  subst hp; subst hq; subst hcs; subst htot
  have hrun : ∃ arr : Array Value, arr.toList = (List.replicate cp zs).flatten ∧ (execOp a.eval o).run P w = .ok (.value (.slice (some ⟨w.heap.size, 0, none⟩) ln cp)) (w.alloc (.cells arr e)) := by
   have hlw : IntKind.i64.wrap (ln : Int) = ln := IntWalk.i64_in _ (by omega)
   have hcw : IntKind.i64.wrap (cp : Int) = cp := IntWalk.i64_in _ (by omega)
   have hbytes : ¬ ((i.bytes : Int) * (cp : Int) > 2 ^ 48) := by
    rw [hz3]
    have : (bytes : Int) * (cp : Int) = ((cp * bytes : Nat) : Int) := by rw [Nat.mul_comm]; simp
    rw [this]; omega
   have hroom : ∀ (b : Nat) (ww : World), (askRoom b).run P ww = .ok () ww := by
    intro b ww
    unfold askRoom
    split <;> rfl
   have hsz : zv.cells.size = s := by rw [hzc]; simpa using hzl
   by_cases h0 : cp = 0
   ·subst h0
    obtain rfl : ln = 0 := by omega
    refine ⟨#[], by simp, ?_⟩
    simp only [execOp, ho, hf.eval hx, hf.eval hy]
    refine run_value ?_
    have hw0 : IntKind.i64.wrap 0 = 0 := by decide
    have hr0 : Array.range 0 = #[] := rfl
    simp [hr0, Instr.makeSlice, Sem.run_bind, run_under h1, asInt, asIntOf, run_info hi1, hw0, hroom, sizeOf, hz2, newRow, newObj, Sem.run]
   ·refine ⟨(Array.range (cp * s)).map (fun i => zs.toArray[i % s]!), madeCellsS hzl hs0 cp, ?_⟩
    simp only [execOp, ho, hf.eval hx, hf.eval hy]
    refine run_value ?_
    have hns : ¬ (cp * s = 0) := fun hc => by rcases Nat.mul_eq_zero.1 hc with h | h <;> omega
    simp [Instr.makeSlice, Sem.run_bind, run_under h1, asInt, asIntOf, run_info hi1, hlw, hcw, hbytes, hroom, sizeOf, hz2, zeroValue, hz1, hzc, hzl, newRow, newObj, Sem.run, hns]
    have e1 : ¬ (cp : Int) < 0 := by omega
    have e2 : ¬ (ln : Int) < 0 := by omega
    have e3 : ¬ (cp : Int) < (ln : Int) := by omega
    have e4 : ¬ ((2 : Int) ^ 48 < (i.bytes : Int) * (cp : Int)) := hbytes
    have e5 : ¬ s = 0 := by omega
    simp [e2, e3, h0, e5, hzc, hzl]
    simp at e4
    try omega
  obtain ⟨arr, ha, hrun⟩ := hrun
  unfold Oper.wp; rw [hrun]
  have hst := hs.alloc e _ arr ha
  rw [rep_len hzl] at hst
  exact hK _ _ (hr _ hs.size _ _ (hf.put o.dst _ hi) hst)
theorem perm_midE {A B : List Ent} {g : Ent} : (A ++ g :: B).Perm ((A ++ B) ++ [g]) := List.perm_middle.trans (List.perm_append_singleton g (A ++ B)).symm
section
variable {HB X D : List Ent} {ks : List Nat} {r' : Value → List Ent → Prop} {rs : List (Value → List Ent → Prop)}
theorem TR.storeN {i g off s : Nat} {ent : Ent} {vs : List Value} (hg : Wants n ops L o) (hd : o.dst = none) (ho : o.op = .store t x y) (hsz : (P.info? t).map (·.size) = some s)
  (hx : ev L x = some (.pointer (some ⟨g, off, none⟩))) (hy : ev L y = some (.agg vs.toArray)) (hl : vs.length = s) (h1 : ∀ u ∈ vs, u.oneCell' = true) (hi : D[i]? = some ent) (he : ent.g = g) (hoff : off + vs.length ≤ ent.cs.length)
  {cs' : List Value} (hcs : ent.cs.take off ++ vs ++ ent.cs.drop (off + vs.length) = cs') {D' : List Ent} (hH : D.set i ⟨ent.g, ent.t, cs', ent.tot⟩ = D') (hF : Fresh w0 D) (hr : TR P ops Q n w0 HB ks rs rest L X D') : TR P ops Q n w0 HB (4 :: ks) (r' :: rs) (o :: rest) L X D :=
 fun a hf => .inr (.inr ⟨rfl, hd, D', ⟨fun Z w hZ hs => by
  subst hcs
  subst hH
  have hlt : i < D.length := (List.getElem?_eq_some_iff.1 hi).1
  have hi2 : (HB ++ (Z ++ D))[HB.length + (Z.length + i)]? = some ent := by
   rw [List.getElem?_append_right (by omega), List.getElem?_append_right (by omega), ← hi]
   congr 1; omega
  obtain ⟨w', hrun, hs'⟩ := run_storeCells (P := P) (i := HB.length + (Z.length + i)) (g := g) (ent := ent) (off := off) vs 0 (HB ++ (Z ++ D)) ent w he hs hi2 h1 (by omega)
  refine ⟨w', ?_, ?_⟩
  ·simp only [execOp, ho, hf.eval hx, hf.eval hy]
   refine run_unit ?_
   simp only [Instr.storeAt, Instr.sureAddr, storeVar, Sem.run_bind, Sem.run_pure, Result.andThen_ok, run_size hsz]
   rw [if_neg (fun h => h (by simpa [Value.cells] using hl))]
   simpa [Value.cells] using hrun
  ·rw [Nat.add_zero] at hs'
   rwa [List.set_append_right _ _ (by omega), List.set_append_right _ _ (by omega), show HB.length + (Z.length + i) - HB.length - Z.length = i by omega] at hs', hg a hf, by subst hH; exact fresh_set hF hi rfl⟩, hr a hf⟩)
end
/-
 The code of layer 5: the closure of checkTargets, sort.Search, ascending.
-/
theorem enters71 : Enters Tryz.prog 71 := ⟨_, Tryz.func71, by kernel_rfl, by kernel_rfl⟩
theorem enters78 : Enters Tryz.prog 78 := ⟨_, Tryz.func78, by kernel_rfl, by kernel_rfl⟩
theorem enters79 : Enters Tryz.prog 79 := ⟨_, Tryz.func79, by kernel_rfl, by kernel_rfl⟩
theorem enters90 : Enters Tryz.prog 90 := ⟨_, Tryz.func90, by kernel_rfl, by kernel_rfl⟩
theorem enters91 : Enters Tryz.prog 91 := ⟨_, Tryz.func91, by kernel_rfl, by kernel_rfl⟩
theorem enters92 : Enters Tryz.prog 92 := ⟨_, Tryz.func92, by kernel_rfl, by kernel_rfl⟩
theorem mk83 : (Tryz.prog.info? 83).map (fun i => (i.zero, i.size, i.bytes)) = some (some (.agg #[.int .i64 0, .int .i64 0, .int .i64 0]), 3, 24) := by kernel_rfl
theorem over1_c (bt gt m i : Nat) (o n : Int) (Cs : List CV) (Ts : List TV) (hA : AscT o n Cs Ts) (hm9 : m ≤ 1000000000) (hm8 : Cs.length ≤ 1000000000) (hlT : Ts.length = m) (hi : i ≤ 1000000000) (w : World) (hbt : w.cell? ⟨bt, 0, none⟩ = some (.slice (some ⟨gt, 0, none⟩) m m)) (hr : RowsT w gt 0 Ts) (hbl : bt < w.heap.size) (hgl : gt < w.heap.size) : Calls Tryz.prog 90 #[.int .i64 (i : Int), .pointer (some ⟨bt, 0, none⟩)] w fun e w' => e = .returned (.bool (decide (ovF (upF Ts (i : Int))))) ∧ St w [] w' := by
 refine qP (args := [.int .i64 (i : Int), .pointer (some ⟨bt, 0, none⟩)]) Tryz.func90 rfl Tryz.ntmps90 (by simp) ?_
 refine qC [0, 1] ?_
 iterate 7 refine gx ?_
 refine qB (qA rfl) rfl (qJ rfl agg78 rfl (qp hbt hbl qF)) ?_
 refine gx ?_
 refine qr (ι := Nat × Nat) (V := fun y => .func (.func 112) #[] #[.pointer (some ⟨y.1, 0, none⟩), .pointer (some ⟨y.2, 0, none⟩)]) (R := fun y => w.heap.size ≤ y.1 ∧ w.heap.size ≤ y.2) (H' := fun y => [⟨y.1, 78, [slice (some ⟨gt, 0, none⟩) m m], 1⟩, ⟨y.2, 3, [int .i64 (i : Int)], 1⟩]) (qA rfl) rfl enters92 rfl rfl (fun w hs => (upTo_c gt m (i : Int) w).mono fun e w' ⟨y, he, hR, hw⟩ => ⟨y, he, ⟨Nat.le_trans hs.size hR.1, Nat.le_trans hs.size hR.2⟩, st_call hs hw (fun e he => by rcases List.mem_cons.1 he with rfl | he; exact hR.1; rw [List.mem_singleton.1 he]; exact hR.2)⟩) (fun y hR => ?_)
 obtain ⟨u1, v1⟩ := y
 obtain ⟨hu1, hv1⟩ := hR
 dsimp only at hu1 hv1 ⊢
 refine qR (qA rfl) rfl enters91 rfl rfl (v := .bool (decide (ovF (upF Ts (i : Int))))) (fun w hs => overlap_c u1 v1 gt m Ts (i : Int) (by omega) hm9 (hA.nums hm8) n hA.n0 (hA.pos _) (hA.ends _) w (capT_of (hs.has (⟨u1, 78, [slice (some ⟨gt, 0, none⟩) m m], 1⟩) (by simp)) (hs.has (⟨v1, 3, [int .i64 (i : Int)], 1⟩) (by simp)) (hr.of_block (hs.old gt hgl (qD (by show u1 ≠ gt; omega) (qD (by show v1 ≠ gt; omega) qF)))) hlT (Nat.lt_of_lt_of_le hgl hs.size))) ?_
 iterate 4 refine gx ?_
 exact qN rfl rfl (fun w hs => ⟨dec_iff (Iff.rfl), ((hs.drop (by assumption)).drop (by assumption))⟩)
theorem shr1 {h : Nat} {p : Int} (hh : (h : Int) = p / 2) (hp : 0 ≤ p) : shrI .u64 p 1 = (h : Int) := by
 unfold shrI
 rw [hh, Int.fdiv_eq_ediv_of_nonneg _ (by decide)]
 rfl
theorem search_c (p : Nat → Prop) [DecidablePred p] (m bt : Nat) (hm : m ≤ 1000000000) (w : World) (hf : ∀ (i : Nat) (W : World), i < m → St w [] W → Calls Tryz.prog 90 #[.int .i64 (i : Int), .pointer (some ⟨bt, 0, none⟩)] W fun e w' => e = .returned (.bool (decide (p i))) ∧ St W [] w') (hmono : ∀ a b, a ≤ b → b < m → p a → p b) : Calls Tryz.prog 89 #[.int .i64 (m : Int), .func (.func 90) #[] #[.pointer (some ⟨bt, 0, none⟩)]] w fun e w' => e = .returned (.int .i64 ((lowI p m) : Int)) ∧ St w [] w' := by
 refine qP (args := [.int .i64 (m : Int), .func (.func 90) #[] #[.pointer (some ⟨bt, 0, none⟩)]]) Tryz.func89 rfl Tryz.ntmps89 (by simp) ?_
 refine qC [0, 1] ?_
 iterate 14 refine gx ?_
 refine qe (ι := Nat × Nat) (fun y => [(1, .func (.func 90) #[] #[.pointer (some ⟨bt, 0, none⟩)]), (5, .int .i64 (y.1 : Int)), (6, .int .i64 (y.2 : Int))]) (fun y => []) (fun y => y.2 - y.1) (fun y => (y.1 ≤ y.2 ∧ y.2 ≤ m) ∧ (∀ j, j < y.1 → ¬ p j) ∧ ∀ j, y.2 ≤ j → j < m → p j) (0, m) ⟨⟨Nat.zero_le _, Nat.le_refl _⟩, fun j h => absurd h (Nat.not_lt_zero j), fun j h1 h2 => by omega⟩ (qH (i := 1) rfl (qE (i := 5) rfl rfl (qE (i := 6) rfl rfl (qK)))) (fun w h => h) (fun y hC0 => ?_)
 obtain ⟨lo, hi⟩ := y
 obtain ⟨⟨hC0, hC1⟩, hC2, hC3⟩ := hC0
 dsimp only at hC0 hC1 hC2 hC3
 iterate 8 refine gx ?_
 refine qQ rfl (fun hq0 => ?_) (fun hq0 => ?_)
 ·iterate 7 refine gx ?_
  refine qB (qA rfl) rfl (qU rfl rfl rfl (r := ((lo : Int) + (hi : Int))) (w64 (by omega) (by omega))) ?_
  refine qB (qA rfl) rfl (qv rfl Tryz.underlying3 Tryz.underlying126 rfl (r := ((lo : Int) + (hi : Int))) (wu64 rfl (by omega))) ?_
  obtain ⟨h, hh⟩ : ∃ h : Nat, (h : Int) = ((lo : Int) + (hi : Int)) / 2 := ⟨(lo + hi) / 2, by omega⟩
  refine qB (qA rfl) rfl (zI rfl rfl rfl (by omega) (r := (h : Int)) (shr1 hh (by omega))) ?_
  refine qB (qA rfl) rfl (qv rfl Tryz.underlying126 Tryz.underlying3 rfl (r := (h : Int)) (w64 rfl (by omega))) ?_
  iterate 3 refine gx ?_
  refine qC [1, 5, 6, 7] ?_
  iterate 4 refine gx ?_
  refine TL.call0F (qA rfl) rfl enters90 rfl rfl rfl (u := .bool (decide (p h))) (fun w hs => hf h w (by omega) hs) ?_
  iterate 3 refine gx ?_
  refine qQ rfl (fun hq1 => ?_) (fun hq1 => ?_)
  ·iterate 2 refine gx ?_
   refine qB (qA rfl) rfl (qU rfl rfl rfl (r := ((h : Int) + 1)) (w64 (by omega) (by omega))) ?_
   iterate 3 refine gx ?_
   exact qc (h + 1, hi) (by show hi - (h + 1) < hi - lo; omega) ⟨⟨(by show h + 1 ≤ hi; omega), hC1⟩, fun j hj hp => hq1 (hmono j h (by omega) (by omega) hp), hC3⟩ (qH (i := 1) rfl (qE (i := 5) rfl (by show _ = _; omega) (qE (i := 6) rfl (by show _ = _; omega) (qK)))) (fun w h => h)
  ·iterate 5 refine gx ?_
   exact qc (lo, h) (by show h - lo < hi - lo; omega) ⟨⟨(by show lo ≤ h; omega), (by show h ≤ m; omega)⟩, hC2, fun j h1 h2 => hmono h j h1 h2 (Classical.byContradiction hq1)⟩ (qH (i := 1) rfl (qE (i := 5) rfl (by show _ = _; omega) (qE (i := 6) rfl (by show _ = _; omega) (qK)))) (fun w h => h)
 ·iterate 12 refine gx ?_
  exact qN rfl rfl (fun w hs => ⟨ret_i (by rw [lowI_is (k := lo) (by omega) hC2 (by by_cases hmm : lo = m; exact .inl hmm; exact .inr (hC3 lo (by omega) (by omega)))]), hs⟩)
theorem tgt_c (k t f l : Int) (A : Option Addr) (m c : Nat) (hk : k = 1 ∨ k = 2) (w : World) : Calls Tryz.prog 71 #[.agg ([int .i64 k, int .i64 t, int .i64 f, int .i64 l, slice A m c]).toArray] w fun e w' => e = .returned (.agg ([int .i64 t, int .i64 (lenV k l m)]).toArray) ∧ St w [] w' := by
 unfold lenV
 rcases hk with rfl | rfl
 ·rw [if_pos rfl]; exact target1 t f l A m c w
 ·rw [if_neg (by decide)]; exact target2 t f l A m c w
theorem asc_c (A : Option Addr) (m c : Nat) (Cs : List CV) (hk12 : ∀ (i : Nat) (x : CV), Cs[i]? = some x → x.k = 1 ∨ x.k = 2) (hmm : m ≤ 1000000000) (hN : NumsC Cs) (w : World) (hC : SrcC w A m Cs) : Calls Tryz.prog 46 #[.slice A m c] w fun e w' => ∃ y : Nat × List TV, e = .returned (.slice (some ⟨y.1, 0, none⟩) m m) ∧ (y.2.Perm (tvOf Cs) ∧ y.2.Pairwise leT) ∧ w.heap.size ≤ y.1 ∧ St w [⟨y.1, 83, flatT y.2, (m * 3)⟩] w' := by
 refine qP (args := [.slice A m c]) Tryz.func46 rfl Tryz.ntmps46 (by simp) ?_
 refine qC [0] ?_
 iterate 9 refine gx ?_
 refine TL.makeSliceS (qA rfl) rfl rfl Tryz.underlying78 mk83 (zs := [int .i64 0, int .i64 0, int .i64 0]) rfl rfl (by decide) rfl rfl (ln := m) (cp := m) (by omega) (by omega) (by omega) (by omega) (by omega) (cs := flatT (stT Cs m 0)) (tot := m * 3) (stT_rep Cs m) rfl (fun g1 hg1 => ?_)
 iterate 11 refine gx ?_
 refine qC [2, 3, 9, 10, 11] ?_
 refine gx ?_
 refine qe (ι := Nat) (fun i => [(3, .slice (some ⟨g1, 0, none⟩) m m), (9, .slice A m c), (10, .int .i64 (m : Int)), (11, .int .i64 (i : Int))]) (fun i => [⟨g1, 83, flatT (stT Cs m i), (m * 3)⟩]) (fun i => m - i) (fun i => i ≤ m) 0 (Nat.zero_le _) (qL (i := 3) rfl rfl (by first | omega | (dsimp only; omega) | rfl) (by first | omega | (dsimp only; omega) | rfl) (qL (i := 9) rfl rfl (by first | omega | (dsimp only; omega) | rfl) (by first | omega | (dsimp only; omega) | rfl) (qE (i := 10) rfl (by first | omega | rfl) (qE (i := 11) rfl (by first | omega | rfl) (qK))))) (fun w h => h) (fun i hC0 => ?_)
 iterate 6 refine gx ?_
 refine qQ rfl (fun hq0 => ?_) (fun hq0 => ?_)
 ·obtain ⟨b, off, hAe, hb, hrw⟩ := hC.some_ (i := i) (by omega)
  subst hAe
  obtain ⟨x, hx⟩ := hC.get (i := i) (by omega)
  have hnx := hN i x hx
  unfold NumC at hnx
  have hlbx := lenV_bd (k := x.k) (l := x.l) (m := x.m) (by omega) (by omega)
  iterate 7 refine gx ?_
  refine qB (qA rfl) rfl (qW rfl Tryz.underlying24 size54 rfl rfl (i := i) (by omega) (by omega) (off' := (off + 5 * i)) (by omega)) ?_
  refine qB (qA rfl) rfl (qh rfl agg54 size54 rfl rfl (Row.old (fun jj u h => hrw i x hx jj u h) hb (qD (by show g1 ≠ b; omega) qF))) ?_
  refine qb (fun g2 hg2 => ?_)
  iterate 4 refine gx ?_
  refine qC [3, 4, 5, 9, 10, 11] ?_
  iterate 4 refine gx ?_
  refine qR (qA rfl) rfl enters71 rfl rfl (v := .agg ([int .i64 x.t, int .i64 (lenV x.k x.l x.m)]).toArray) (fun w hs => tgt_c x.k x.t x.f x.l x.A x.m x.c (hk12 i x hx) w) ?_
  refine gx ?_
  refine qB (qA rfl) rfl (qm rfl (vs := [(0, Value.agg ([int .i64 x.t, int .i64 (lenV x.k x.l x.m)]).toArray), (1, int .i64 (i : Int))]) rfl (fun w => by first | rfl | kernel_rfl) (v := .agg ([int .i64 x.t, int .i64 (lenV x.k x.l x.m), int .i64 (i : Int)]).toArray)) ?_
  refine qB (qA rfl) rfl (qW rfl Tryz.underlying78 size83 rfl rfl (i := i) (by omega) (by omega) (off' := (3 * i)) (by omega)) ?_
  refine TL.storeN (qA rfl) rfl rfl size83 rfl (vs := [int .i64 x.t, int .i64 (lenV x.k x.l x.m), int .i64 (i : Int)]) rfl rfl (by simp [Value.oneCell']) (i := 1) (ent := ⟨g1, 83, flatT (stT Cs m i), (m * 3)⟩) rfl rfl (by show (3 * i) + 3 ≤ (flatT (stT Cs m i)).length; rw [flatT_len, stT_len hC.1 (by omega)]; omega) (cs' := flatT (stT Cs m (i + 1))) (stT_step hC.1 hx) (H' := [⟨g2, 54, [int .i64 x.k, int .i64 x.t, int .i64 x.f, int .i64 x.l, slice x.A x.m x.c], 5⟩, ⟨g1, 83, flatT (stT Cs m (i + 1)), (m * 3)⟩]) rfl ?_
  iterate 3 refine gx ?_
  refine qC [3, 9, 10, 11] ?_
  refine gx ?_
  refine qB (qA rfl) rfl (qU rfl rfl rfl (r := ((i : Int) + 1)) (w64 (by omega) (by omega))) ?_
  iterate 2 refine gx ?_
  exact qc (i + 1) (by omega) (by omega) (qL (i := 3) rfl rfl (by first | omega | (dsimp only; omega) | rfl) (by first | omega | (dsimp only; omega) | rfl) (qL (i := 9) rfl (by first | rfl | (congr 2; omega)) (by first | omega | (dsimp only; omega) | rfl) (by first | omega | (dsimp only; omega) | rfl) (qE (i := 10) rfl (by first | omega | rfl) (qE (i := 11) rfl (by first | omega | rfl) (qK))))) (fun w h => (h.erase (i := 0) rfl (by assumption)))
 ·have him : i = m := by omega
  iterate 8 refine gx ?_
  refine qr (ι := List TV) (V := fun Es => .tuple #[]) (R := fun Es => Es.Perm (tvOf Cs) ∧ Es.Pairwise leT) (H' := fun Es => [⟨g1, 83, flatT Es, (m * 3)⟩]) (qA rfl) rfl enters78 rfl rfl (fun w hs => by have hlen := stT_len (i := i) hC.1 (by omega); have h := sortT_c (Ts := stT Cs m i) (cap := m) hs (by omega) (fun args w => run_call enters79 args w) (fun x y W => closureT_c x y W); rw [hlen] at h; exact h.mono fun e w' ⟨he, Es, hp, hq, hw⟩ => ⟨Es, he, ⟨by rw [him, stT_all hC.1] at hp; exact hp, hq⟩, hw⟩) (fun Es hEs => ?_)
  iterate 9 refine gx ?_
  exact qN rfl rfl (fun w hs => ⟨(g1, Es), rfl, hEs, by assumption, hs⟩)
/-
 The code of layer 5: checkTargets.
-/
theorem agg40 : (isAgg 40).run Tryz.prog = fun w => .ok true w := isAgg_yes Tryz.underlying40 rfl
theorem enters46 : Enters Tryz.prog 46 := ⟨_, Tryz.func46, by kernel_rfl, by kernel_rfl⟩
theorem enters89 : Enters Tryz.prog 89 := ⟨_, Tryz.func89, by kernel_rfl, by kernel_rfl⟩
theorem enters93 : Enters Tryz.prog 93 := ⟨_, Tryz.func93, by kernel_rfl, by kernel_rfl⟩
theorem size40 : (Tryz.prog.info? 40).map (·.size) = some 2 := by kernel_rfl
theorem size78 : (Tryz.prog.info? 78).map (·.size) = some 1 := by kernel_rfl
theorem zero40 : (Tryz.prog.info? 40).bind (·.zero) = some (.agg #[.int .i64 0, .int .i64 0]) := by kernel_rfl
theorem zero78 : (Tryz.prog.info? 78).bind (·.zero) = some (.slice none 0 0) := by kernel_rfl
instance : AgN Tryz.prog 78 := ⟨agg78⟩
instance : Siz Tryz.prog 40 2 := ⟨size40⟩
instance : Zer Tryz.prog 40 [int .i64 0, int .i64 0] := ⟨⟨_, zero40, rfl⟩⟩
instance : Zer Tryz.prog 78 [slice none 0 0] := ⟨⟨_, zero78, rfl⟩⟩
theorem ct_c (o n : Int) (H1 H2 : List Int) (hH1 : H1.length = 32) (hH2 : H2.length = 32) (A : Option Addr) (m c : Nat) (Cs : List CV) (hk12 : ∀ (i : Nat) (x : CV), Cs[i]? = some x → x.k = 1 ∨ x.k = 2) (hok : okLen o n) (h1 : ∀ (i : Nat) (x : CV), Cs[i]? = some x → singleV o n x = 0) (hmm : m ≤ 1000000000) (hN : NumsC Cs) (w : World) (hC : SrcC w A m Cs)  : Calls Tryz.prog 64 #[.agg (dV o n H1 H2 (slice A m c)).toArray] w fun e w' => e = .returned (.agg ([int .i64 ((faultI o n Cs).1), int .i64 ((faultI o n Cs).2)]).toArray) ∧ St w [] w' := by
 refine qP (args := [.agg (dV o n H1 H2 (slice A m c)).toArray]) Tryz.func64 rfl Tryz.ntmps64 (by simp) ?_
 refine qC [0] ?_
 iterate 2 refine gx ?_
 refine TL.box (qA rfl) rfl rfl rfl (cs := dV o n H1 H2 (slice A m c)) (by simp [Value.cells]) (tot := 67) (by simp [hH1, hH2]) (fun g1 hg1 => ?_)
 refine qb (fun g2 hg2 => ?_)
 iterate 6 refine gx ?_
 refine qr (ι := Nat × List TV) (V := fun y => .slice (some ⟨y.1, 0, none⟩) m m) (R := fun y => (y.2.Perm (tvOf Cs) ∧ y.2.Pairwise leT) ∧ w.heap.size ≤ y.1) (H' := fun y => [⟨g2, 40, [int .i64 0, int .i64 0], 2⟩, ⟨g1, 26, dV o n H1 H2 (slice A m c), 67⟩, ⟨y.1, 83, flatT y.2, (m * 3)⟩]) (qA rfl) rfl enters46 rfl rfl (fun w hs => (asc_c A m c Cs hk12 (by omega) hN w (hC.at_ hs (fun b hb => (qD (by show g2 ≠ b; omega) (qD (by show g1 ≠ b; omega) qF))))).mono fun e w' ⟨y, he, hR, hg, hw⟩ => ⟨y, he, ⟨hR, Nat.le_trans hs.size hg⟩, st_call hs hw (fun e he => by rw [List.mem_singleton.1 he]; exact hg)⟩) (fun y hR => ?_)
 obtain ⟨gt, Ts⟩ := y
 obtain ⟨⟨hTp, hTs⟩, hgt⟩ := hR
 dsimp only at hTp hTs hgt ⊢
 have hA : AscT o n Cs Ts := ⟨hTp, hTs, hok, h1⟩
 have hm8 : Cs.length ≤ 1000000000 := by have := hC.1; omega
 have hm9 : m ≤ 1000000000 := hmm
 have hlT : Ts.length = m := hA.len.trans hC.1
 have hls := lowI_spec (fun q : Nat => ovF (upF Ts (q : Int))) m
 have hlow := hls.2
 have hn0 := hA.n0
 refine qb (fun g3 hg3 => ?_)
 refine qy (qA rfl) rfl rfl size78 rfl rfl rfl (i := 0) rfl rfl (by simp [] <;> omega) (cs' := [slice (some ⟨gt, 0, none⟩) m m]) (rfl) (H' := [⟨g3, 78, [slice (some ⟨gt, 0, none⟩) m m], 1⟩, ⟨g2, 40, [int .i64 0, int .i64 0], 2⟩, ⟨g1, 26, dV o n H1 H2 (slice A m c), 67⟩, ⟨gt, 83, flatT Ts, (m * 3)⟩]) rfl ?_
 iterate 6 refine gx ?_
 refine qB (qA rfl) rfl (Gets.makeFunc rfl rfl rfl) ?_
 refine qR (qA rfl) rfl enters89 rfl rfl (v := .int .i64 ((lowI (fun q : Nat => ovF (upF Ts (q : Int))) m) : Int)) (fun w hs => search_c (fun q : Nat => ovF (upF Ts (q : Int))) m g3 (by omega) w (fun i W hi hW => over1_c g3 gt m i o n Cs Ts hA hm9 hm8 hlT (by omega) W ((lies_call (hs.has (⟨g3, 78, [slice (some ⟨gt, 0, none⟩) m m], 1⟩) (by simp)) hW).cell rfl) (lies_rowsT (lies_call (hs.has (⟨gt, 83, flatT Ts, (m * 3)⟩) (by simp)) hW)) (lies_call (hs.has (⟨g3, 78, [slice (some ⟨gt, 0, none⟩) m m], 1⟩) (by simp)) hW).lt (lies_call (hs.has (⟨gt, 83, flatT Ts, (m * 3)⟩) (by simp)) hW).lt) (fun a b hab _ ha => hA.mono hab ha)) ?_
 iterate 3 refine gx ?_
 refine qC [1, 2, 3, 4] ?_
 iterate 9 refine gx ?_
 refine qQ rfl (fun hq0 => ?_) (fun hq0 => ?_)
 ·have hov : ovF (upF Ts ((lowI (fun q : Nat => ovF (upF Ts (q : Int))) m : Nat) : Int)) := by rcases hls.1 with h | h; exact h.2; omega
  iterate 3 refine gx ?_
  refine qB (qA rfl) rfl (qm rfl (vs := [(0, int .i64 4), (1, int .i64 ((lowI (fun q : Nat => ovF (upF Ts (q : Int))) m) : Int))]) rfl (fun w => by first | rfl | kernel_rfl) (v := .agg ([int .i64 4, int .i64 ((lowI (fun q : Nat => ovF (upF Ts (q : Int))) m) : Int)]).toArray)) ?_
  iterate 5 refine gx ?_
  exact qn rfl agg40 size40 rfl (vs := [int .i64 4, int .i64 ((lowI (fun q : Nat => ovF (upF Ts (q : Int))) m) : Int)]) rfl (qZ (i := 1) (ent := ⟨g2, 40, [int .i64 4, int .i64 ((lowI (fun q : Nat => ovF (upF Ts (q : Int))) m) : Int)], 2⟩) rfl rfl rfl) (fun w hs => ⟨by rw [hA.over (k := lowI (fun q : Nat => ovF (upF Ts (q : Int))) m) hov (fun j hj => hlow j hj (by omega))], ((((hs.drop (by assumption)).drop (by assumption)).drop (by assumption)).drop (by assumption))⟩)
 ·have hnb : ∀ j : Nat, j < m → ¬ ovF (upF Ts (j : Int)) := by rcases hls.1 with h | h; omega; exact fun j hj => hlow j (by omega) hj
  iterate 8 refine gx ?_
  refine qr (ι := Nat × Nat) (V := fun y => .func (.func 112) #[] #[.pointer (some ⟨y.1, 0, none⟩), .pointer (some ⟨y.2, 0, none⟩)]) (R := fun y => w.heap.size ≤ y.1 ∧ w.heap.size ≤ y.2) (H' := fun y => [⟨g3, 78, [slice (some ⟨gt, 0, none⟩) m m], 1⟩, ⟨g2, 40, [int .i64 0, int .i64 0], 2⟩, ⟨g1, 26, dV o n H1 H2 (slice A m c), 67⟩, ⟨gt, 83, flatT Ts, (m * 3)⟩, ⟨y.1, 78, [slice (some ⟨gt, 0, none⟩) m m], 1⟩, ⟨y.2, 3, [int .i64 (m : Int)], 1⟩]) (qA rfl) rfl enters92 rfl rfl (fun w hs => (upTo_c gt m (m : Int) w).mono fun e w' ⟨y, he, hR, hw⟩ => ⟨y, he, ⟨Nat.le_trans hs.size hR.1, Nat.le_trans hs.size hR.2⟩, st_call hs hw (fun e he => by rcases List.mem_cons.1 he with rfl | he; exact hR.1; rw [List.mem_singleton.1 he]; exact hR.2)⟩) (fun y hR => ?_)
  obtain ⟨u1, v1⟩ := y
  obtain ⟨hu1, hv1⟩ := hR
  dsimp only at hu1 hv1 ⊢
  refine qr (ι := Int) (V := fun z => .int .i64 z) (R := fun z => gapR (upF Ts (m : Int)) z) (H' := fun _ => [⟨g3, 78, [slice (some ⟨gt, 0, none⟩) m m], 1⟩, ⟨g2, 40, [int .i64 0, int .i64 0], 2⟩, ⟨g1, 26, dV o n H1 H2 (slice A m c), 67⟩, ⟨gt, 83, flatT Ts, (m * 3)⟩, ⟨u1, 78, [slice (some ⟨gt, 0, none⟩) m m], 1⟩, ⟨v1, 3, [int .i64 (m : Int)], 1⟩]) (qA rfl) rfl enters93 rfl rfl (fun w hs => (gap_c u1 v1 gt m Ts (m : Int) (by omega) hm9 (hA.nums hm8) n hA.n0 (hA.pos _) (hA.ends _) w (capT_of (hs.has (⟨u1, 78, [slice (some ⟨gt, 0, none⟩) m m], 1⟩) (by simp)) (hs.has (⟨v1, 3, [int .i64 (m : Int)], 1⟩) (by simp)) (lies_rowsT (hs.has (⟨gt, 83, flatT Ts, (m * 3)⟩) (by simp))) hlT (hs.has (⟨gt, 83, flatT Ts, (m * 3)⟩) (by simp)).lt)).mono fun e w' ⟨y, he, hR, hw⟩ => ⟨y, he, hR, hs.call' hw⟩) (fun z hz => ?_)
  iterate 3 refine gx ?_
  refine qC [1, 2, 5] ?_
  iterate 8 refine gx ?_
  refine qQ rfl (fun hq1 => ?_) (fun hq1 => ?_)
  ·iterate 3 refine gx ?_
   refine qB (qA rfl) rfl (qm rfl (vs := [(0, int .i64 3), (1, int .i64 z)]) rfl (fun w => by first | rfl | kernel_rfl) (v := .agg ([int .i64 3, int .i64 z]).toArray)) ?_
   iterate 5 refine gx ?_
   exact qn rfl agg40 size40 rfl (vs := [int .i64 3, int .i64 z]) rfl (qZ (i := 1) (ent := ⟨g2, 40, [int .i64 3, int .i64 z], 2⟩) rfl rfl rfl) (fun w hs => ⟨by rw [hA.gap hC.1 hnb hz hq1], ((((((hs.drop (by assumption)).drop (by assumption)).drop (by assumption)).drop (by assumption)).drop (by assumption)).drop (by assumption))⟩)
  ·iterate 4 refine gx ?_
   refine qB (qA rfl) rfl (qm rfl (vs := []) rfl (fun w => by first | rfl | kernel_rfl) (v := .agg ([int .i64 0, int .i64 0]).toArray)) ?_
   iterate 4 refine gx ?_
   exact qn rfl agg40 size40 rfl (vs := [int .i64 0, int .i64 0]) rfl (qZ (i := 1) (ent := ⟨g2, 40, [int .i64 0, int .i64 0], 2⟩) rfl rfl rfl) (fun w hs => ⟨by rw [hA.none hC.1 hnb hz hq1], ((((((hs.drop (by assumption)).drop (by assumption)).drop (by assumption)).drop (by assumption)).drop (by assumption)).drop (by assumption))⟩)
/-
 The code of layer 5: checkCommand, Check, Valid.
-/
theorem enters35 : Enters Tryz.prog 35 := ⟨_, Tryz.func35, by kernel_rfl, by kernel_rfl⟩
theorem enters49 : Enters Tryz.prog 49 := ⟨_, Tryz.func49, by kernel_rfl, by kernel_rfl⟩
theorem enters62 : Enters Tryz.prog 62 := ⟨_, Tryz.func62, by kernel_rfl, by kernel_rfl⟩
theorem enters63 : Enters Tryz.prog 63 := ⟨_, Tryz.func63, by kernel_rfl, by kernel_rfl⟩
theorem enters64 : Enters Tryz.prog 64 := ⟨_, Tryz.func64, by kernel_rfl, by kernel_rfl⟩
theorem enters87 : Enters Tryz.prog 87 := ⟨_, Tryz.func87, by kernel_rfl, by kernel_rfl⟩
theorem enters88 : Enters Tryz.prog 88 := ⟨_, Tryz.func88, by kernel_rfl, by kernel_rfl⟩
theorem geq40 : Tryz.prog.eqGuardType Tryz.prog.depth 40 = false := by kernel_rfl
theorem sih40 : Tryz.prog.stoodInHeld 40 = false := by kernel_rfl
theorem file_c (n : Int) (w : World) : Calls Tryz.prog 62 #[.int .i64 n] w fun e w' => e = .returned (.agg ([int .i64 0, int .i64 n]).toArray) ∧ St w [] w' := by
 refine qP (args := [.int .i64 n]) Tryz.func62 rfl Tryz.ntmps62 (by simp) ?_
 refine qC [0] ?_
 iterate 2 refine gx ?_
 refine qb (fun g1 hg1 => ?_)
 iterate 5 refine gx ?_
 refine qB (qA rfl) rfl (qm rfl (vs := [(1, int .i64 n)]) rfl (fun w => by first | rfl | kernel_rfl) (v := .agg ([int .i64 0, int .i64 n]).toArray)) ?_
 iterate 4 refine gx ?_
 exact qn rfl agg81 size81 rfl (vs := [int .i64 0, int .i64 n]) rfl (qZ (i := 0) (ent := ⟨g1, 81, [int .i64 0, int .i64 n], 2⟩) rfl rfl rfl) (fun w hs => ⟨rfl, (hs.drop (by assumption))⟩)
theorem code_kind {k t f l : Int} {m : Nat} (h : codeV k t f l m = 0) : k = 1 ∨ k = 2 := by
 by_cases h1 : k = 1
 ·exact .inl h1
 ·by_cases h2 : k = 2
  ·exact .inr h2
  ·unfold codeV at h; rw [if_neg h1, if_neg h2] at h; cases h
theorem src1_c (k t f l : Int) (A : Option Addr) (m c : Nat) (hk : k = 1) (w : World) : Calls Tryz.prog 49 #[.agg ([int .i64 k, int .i64 t, int .i64 f, int .i64 l, slice A m c]).toArray] w fun e w' => e = .returned (.tuple #[.agg ([int .i64 f, int .i64 l]).toArray, .bool true]) ∧ St w [] w' := by
 subst hk; exact source1 t f l A m c w
theorem src2_c (k t f l : Int) (A : Option Addr) (m c : Nat) (hk : k = 2) (w : World) : Calls Tryz.prog 49 #[.agg ([int .i64 k, int .i64 t, int .i64 f, int .i64 l, slice A m c]).toArray] w fun e w' => e = .returned (.tuple #[.agg ([int .i64 0, int .i64 0]).toArray, .bool false]) ∧ St w [] w' := by
 subst hk; exact source2 t f l A m c w
theorem fault_zero {o n : Int} {Cs : List CV} (h : (faultI o n Cs).1 = 0) : (faultI o n Cs).2 = 0 := by
 obtain ⟨h1, h2, h3, h4⟩ := faultI_valid h
 rw [faultI_gap h1 h2 h3, if_neg (by omega)]
theorem sg_bad (o n : Int) (H1 H2 : List Int) (hH1 : H1.length = 32) (hH2 : H2.length = 32) (A : Option Addr) (m c : Nat) (Cs : List CV) (x : CV) (hok : okLen o n) (hn : NumC x) (hv : ¬ codeV x.k x.t x.f x.l x.m = 0) (w : World) : Calls Tryz.prog 63 #[.agg (dV o n H1 H2 (slice A m c)).toArray, .agg ([int .i64 x.k, int .i64 x.t, int .i64 x.f, int .i64 x.l, slice x.A x.m x.c]).toArray] w fun e w' => e = .returned (.int .i64 (singleV o n x)) ∧ St w [] w' := by
 have hnx := hn
 unfold NumC at hnx
 have hlb := lenV_bd (k := x.k) (l := x.l) (m := x.m) (by omega) (by omega)
 have hok2 := hok
 unfold okLen at hok2
 refine qP (args := [.agg (dV o n H1 H2 (slice A m c)).toArray, .agg ([int .i64 x.k, int .i64 x.t, int .i64 x.f, int .i64 x.l, slice x.A x.m x.c]).toArray]) Tryz.func63 rfl Tryz.ntmps63 (by simp) ?_
 refine qC [0, 1] ?_
 iterate 2 refine gx ?_
 refine TL.box (qA rfl) rfl rfl rfl (cs := dV o n H1 H2 (slice A m c)) (by simp [Value.cells]) (tot := 67) (by simp [hH1, hH2]) (fun g1 hg1 => ?_)
 refine qx (fun g2 hg2 => ?_)
 iterate 7 refine gx ?_
 refine qR (qA rfl) rfl enters87 rfl rfl (v := .int .i64 (codeV x.k x.t x.f x.l x.m)) (fun w hs => check_c x.k x.t x.f x.l x.A x.m x.c (by omega) (by omega) (by omega) (by omega) w) ?_
 iterate 6 refine gx ?_
 refine qB (qA rfl) rfl (qi (Gets.neq rfl rfl rfl) hv) ?_
 iterate 2 refine gx ?_
 refine qC [2, 3, 4, 5, 11] ?_
 refine qq rfl ?_
 iterate 8 refine gx ?_
 exact qN rfl rfl (fun w hs => ⟨ret_i (by unfold singleV; (try unfold inside_ at *); (repeat' split) <;> first | rfl | (exfalso; omega)), ((hs.drop (by assumption)).drop (by assumption))⟩)
theorem sg_one (o n : Int) (H1 H2 : List Int) (hH1 : H1.length = 32) (hH2 : H2.length = 32) (A : Option Addr) (m c : Nat) (Cs : List CV) (x : CV) (hok : okLen o n) (hn : NumC x) (hv : codeV x.k x.t x.f x.l x.m = 0) (hk : x.k = 1) (w : World) : Calls Tryz.prog 63 #[.agg (dV o n H1 H2 (slice A m c)).toArray, .agg ([int .i64 x.k, int .i64 x.t, int .i64 x.f, int .i64 x.l, slice x.A x.m x.c]).toArray] w fun e w' => e = .returned (.int .i64 (singleV o n x)) ∧ St w [] w' := by
 have hnx := hn
 unfold NumC at hnx
 have hlb := lenV_bd (k := x.k) (l := x.l) (m := x.m) (by omega) (by omega)
 have hok2 := hok
 unfold okLen at hok2
 have hcv := codeV_facts hv
 unfold vld at hcv
 have hcf := hcv.2.2 hk
 refine qP (args := [.agg (dV o n H1 H2 (slice A m c)).toArray, .agg ([int .i64 x.k, int .i64 x.t, int .i64 x.f, int .i64 x.l, slice x.A x.m x.c]).toArray]) Tryz.func63 rfl Tryz.ntmps63 (by simp) ?_
 refine qC [0, 1] ?_
 iterate 2 refine gx ?_
 refine TL.box (qA rfl) rfl rfl rfl (cs := dV o n H1 H2 (slice A m c)) (by simp [Value.cells]) (tot := 67) (by simp [hH1, hH2]) (fun g1 hg1 => ?_)
 refine qx (fun g2 hg2 => ?_)
 iterate 7 refine gx ?_
 refine qR (qA rfl) rfl enters87 rfl rfl (v := .int .i64 (codeV x.k x.t x.f x.l x.m)) (fun w hs => check_c x.k x.t x.f x.l x.A x.m x.c (by omega) (by omega) (by omega) (by omega) w) ?_
 iterate 6 refine gx ?_
 refine qB (qA rfl) rfl (qg (Gets.neq rfl rfl rfl) (fun h => h hv)) ?_
 iterate 2 refine gx ?_
 refine qC [2, 3, 4, 5, 11] ?_
 refine ql rfl ?_
 iterate 6 refine gx ?_
 refine qR (qA rfl) rfl enters49 rfl rfl (v := .tuple #[.agg ([int .i64 x.f, int .i64 x.l]).toArray, .bool true]) (fun w hs => src1_c x.k x.t x.f x.l x.A x.m x.c hk w) ?_
 iterate 3 refine gx ?_
 refine qb (fun g3 hg3 => ?_)
 iterate 4 refine gx ?_
 refine qC [2, 3, 4, 6, 7] ?_
 refine gx ?_
 refine TC.mixS [⟨g3, 81, [int .i64 x.f, int .i64 x.l], 2⟩, ⟨g2, 54, [int .i64 x.k, int .i64 x.t, int .i64 x.f, int .i64 x.l, slice x.A x.m x.c], 5⟩, ⟨g1, 26, dV o n H1 H2 (slice A m c), 67⟩] [] (by kernel_rfl) [0, 0, 0, 1, 1, 1, 3, 1, 0, 0] [0, 1, 2, 3, 4, 5, 6, 7, 8, 9] [fun _ _ => True, fun _ _ => True, fun _ _ => True, fun _ _ => True, fun _ _ => True, fun _ _ => True, fun v d => ∃ g, v = .slice (some ⟨g, 0, none⟩) 1 1 ∧ d = [⟨g, 81, [.int .i64 x.f, .int .i64 x.l], 2⟩], fun _ _ => True, fun _ _ => True, fun _ _ => True] (by kernel_rfl) (by kernel_rfl) (perm_pick (p := [0, 1, 2]) (by kernel_rfl) rfl) qa ?_
 iterate 4 refine gx ?_
 refine TR.call0 (qM rfl rfl rfl) rfl enters62 rfl rfl (v := .agg ([int .i64 0, int .i64 o]).toArray) (fun Z w hZ hs => file_c o w) ?_
 refine gx ?_
 refine TR.buildSlice (qM rfl rfl rfl) rfl rfl Tryz.underlying153 size81 zero81 rfl (by decide) (by decide) (cells := #[.int .i64 x.f, .int .i64 x.l]) (tot := 2) (by kernel_rfl) (cs := [.int .i64 x.f, .int .i64 x.l]) rfl rfl (fun g4 hg4 => ?_)
 refine TR.call0 (qM rfl rfl rfl) rfl enters88 rfl rfl (v := .bool (decide (inside_ 0 o x.f x.l))) (fun Z w hZ hs => contains1 0 o x.f x.l (by omega) (by omega) g4 (hs.has (⟨g4, 81, [int .i64 x.f, int .i64 x.l], 2⟩) (by simp)).lt (lies_row0 (hs.has (⟨g4, 81, [int .i64 x.f, int .i64 x.l], 2⟩) (by simp)))) ?_
 iterate 4 refine gx ?_
 refine qC [2, 3, 4, 27] ?_
 refine qQ rfl (fun hq1 => ?_) (fun hq1 => ?_)
 ·iterate 7 refine gx ?_
  exact qN rfl rfl (fun w hs => ⟨ret_i (by unfold singleV; (try unfold inside_ at *); (repeat' split) <;> first | rfl | (exfalso; omega)), ((((hs.drop (by assumption)).drop (by assumption)).drop (by assumption)).drop (by assumption))⟩)
 ·iterate 4 refine gx ?_
  refine TC.mixS [⟨g3, 81, [int .i64 x.f, int .i64 x.l], 2⟩, ⟨g2, 54, [int .i64 x.k, int .i64 x.t, int .i64 x.f, int .i64 x.l, slice x.A x.m x.c], 5⟩, ⟨g1, 26, dV o n H1 H2 (slice A m c), 67⟩, ⟨g4, 81, [int .i64 x.f, int .i64 x.l], 2⟩] [] (by kernel_rfl) [0, 1, 1, 1, 1, 3, 1, 0] [0, 1, 2, 3, 4, 5, 6, 7] [fun _ _ => True, fun _ _ => True, fun _ _ => True, fun _ _ => True, fun _ _ => True, fun v d => ∃ g, v = .slice (some ⟨g, 0, none⟩) 1 1 ∧ d = [⟨g, 81, [.int .i64 x.t, .int .i64 (lenV x.k x.l x.m)], 2⟩], fun _ _ => True, fun _ _ => True] (by kernel_rfl) (by kernel_rfl) (perm_pick (p := [0, 1, 2, 3]) (by kernel_rfl) rfl) qa ?_
  iterate 2 refine gx ?_
  refine TR.call0 (qA rfl) rfl enters62 rfl rfl (v := .agg ([int .i64 0, int .i64 n]).toArray) (fun Z w hZ hs => file_c n w) ?_
  refine gx ?_
  refine TR.call0 (qA rfl) rfl enters71 rfl rfl (v := .agg ([int .i64 x.t, int .i64 (lenV x.k x.l x.m)]).toArray) (fun Z w hZ hs => tgt_c x.k x.t x.f x.l x.A x.m x.c (.inl hk) w) ?_
  refine TR.buildSlice (qA rfl) rfl rfl Tryz.underlying153 size81 zero81 rfl (by decide) (by decide) (cells := #[.int .i64 x.t, .int .i64 (lenV x.k x.l x.m)]) (tot := 2) (by kernel_rfl) (cs := [.int .i64 x.t, .int .i64 (lenV x.k x.l x.m)]) rfl rfl (fun g5 hg5 => ?_)
  refine TR.call0 (qA rfl) rfl enters88 rfl rfl (v := .bool (decide (inside_ 0 n x.t (lenV x.k x.l x.m)))) (fun Z w hZ hs => contains1 0 n x.t (lenV x.k x.l x.m) (by omega) (by omega) g5 (hs.has (⟨g5, 81, [int .i64 x.t, int .i64 (lenV x.k x.l x.m)], 2⟩) (by simp)).lt (lies_row0 (hs.has (⟨g5, 81, [int .i64 x.t, int .i64 (lenV x.k x.l x.m)], 2⟩) (by simp)))) ?_
  iterate 3 refine gx ?_
  refine qC [4, 35] ?_
  refine qQ rfl (fun hq2 => ?_) (fun hq2 => ?_)
  ·iterate 7 refine gx ?_
   exact qN rfl rfl (fun w hs => ⟨ret_i (by unfold singleV; (try unfold inside_ at *); (repeat' split) <;> first | rfl | (exfalso; omega)), (((((hs.drop (by assumption)).drop (by assumption)).drop (by assumption)).drop (by assumption)).drop (by assumption))⟩)
  ·iterate 8 refine gx ?_
   exact qN rfl rfl (fun w hs => ⟨ret_i (by unfold singleV; (try unfold inside_ at *); (repeat' split) <;> first | rfl | (exfalso; omega)), (((((hs.drop (by assumption)).drop (by assumption)).drop (by assumption)).drop (by assumption)).drop (by assumption))⟩)
theorem sg_two (o n : Int) (H1 H2 : List Int) (hH1 : H1.length = 32) (hH2 : H2.length = 32) (A : Option Addr) (m c : Nat) (Cs : List CV) (x : CV) (hok : okLen o n) (hn : NumC x) (hv : codeV x.k x.t x.f x.l x.m = 0) (hk : x.k = 2) (w : World) : Calls Tryz.prog 63 #[.agg (dV o n H1 H2 (slice A m c)).toArray, .agg ([int .i64 x.k, int .i64 x.t, int .i64 x.f, int .i64 x.l, slice x.A x.m x.c]).toArray] w fun e w' => e = .returned (.int .i64 (singleV o n x)) ∧ St w [] w' := by
 have hnx := hn
 unfold NumC at hnx
 have hlb := lenV_bd (k := x.k) (l := x.l) (m := x.m) (by omega) (by omega)
 have hok2 := hok
 unfold okLen at hok2
 have hcv := codeV_facts hv
 unfold vld at hcv
 refine qP (args := [.agg (dV o n H1 H2 (slice A m c)).toArray, .agg ([int .i64 x.k, int .i64 x.t, int .i64 x.f, int .i64 x.l, slice x.A x.m x.c]).toArray]) Tryz.func63 rfl Tryz.ntmps63 (by simp) ?_
 refine qC [0, 1] ?_
 iterate 2 refine gx ?_
 refine TL.box (qA rfl) rfl rfl rfl (cs := dV o n H1 H2 (slice A m c)) (by simp [Value.cells]) (tot := 67) (by simp [hH1, hH2]) (fun g1 hg1 => ?_)
 refine qx (fun g2 hg2 => ?_)
 iterate 7 refine gx ?_
 refine qR (qA rfl) rfl enters87 rfl rfl (v := .int .i64 (codeV x.k x.t x.f x.l x.m)) (fun w hs => check_c x.k x.t x.f x.l x.A x.m x.c (by omega) (by omega) (by omega) (by omega) w) ?_
 iterate 6 refine gx ?_
 refine qB (qA rfl) rfl (qg (Gets.neq rfl rfl rfl) (fun h => h hv)) ?_
 iterate 2 refine gx ?_
 refine qC [2, 3, 4, 5, 11] ?_
 refine ql rfl ?_
 iterate 6 refine gx ?_
 refine qR (qA rfl) rfl enters49 rfl rfl (v := .tuple #[.agg ([int .i64 0, int .i64 0]).toArray, .bool false]) (fun w hs => src2_c x.k x.t x.f x.l x.A x.m x.c hk w) ?_
 iterate 3 refine gx ?_
 refine qb (fun g3 hg3 => ?_)
 iterate 4 refine gx ?_
 refine qC [2, 3, 4, 6, 7] ?_
 refine gx ?_
 refine TC.mixS [⟨g3, 81, [int .i64 0, int .i64 0], 2⟩, ⟨g2, 54, [int .i64 x.k, int .i64 x.t, int .i64 x.f, int .i64 x.l, slice x.A x.m x.c], 5⟩, ⟨g1, 26, dV o n H1 H2 (slice A m c), 67⟩] [] (by kernel_rfl) [0, 0, 0, 0, 0, 0, 0, 0, 0, 0] [0, 1, 2, 3, 4, 5, 6, 7, 8, 9] [fun _ _ => True, fun _ _ => True, fun _ _ => True, fun _ _ => True, fun _ _ => True, fun _ _ => True, fun _ _ => True, fun _ _ => True, fun _ _ => True, fun _ _ => True] (by kernel_rfl) (by kernel_rfl) (perm_pick (p := [0, 1, 2]) (by kernel_rfl) rfl) qa ?_
 iterate 2 refine gx ?_
 refine TR.pass rfl rfl rfl rfl rfl ?_
 refine TR.pass rfl rfl rfl rfl rfl ?_
 refine TR.pass rfl rfl rfl rfl rfl ?_
 refine TR.pass rfl rfl rfl rfl rfl ?_
 refine TR.pass rfl rfl rfl rfl rfl ?_
 refine TR.pass rfl rfl rfl rfl rfl ?_
 refine TR.pass rfl rfl rfl rfl rfl ?_
 iterate 3 refine gx ?_
 refine qC [2, 3, 4, 27] ?_
 refine ql rfl ?_
 iterate 4 refine gx ?_
 refine TC.mixS [⟨g3, 81, [int .i64 0, int .i64 0], 2⟩, ⟨g2, 54, [int .i64 x.k, int .i64 x.t, int .i64 x.f, int .i64 x.l, slice x.A x.m x.c], 5⟩, ⟨g1, 26, dV o n H1 H2 (slice A m c), 67⟩] [] (by kernel_rfl) [0, 1, 1, 1, 1, 3, 1, 0] [0, 1, 2, 3, 4, 5, 6, 7] [fun _ _ => True, fun _ _ => True, fun _ _ => True, fun _ _ => True, fun _ _ => True, fun v d => ∃ g, v = .slice (some ⟨g, 0, none⟩) 1 1 ∧ d = [⟨g, 81, [.int .i64 x.t, .int .i64 (lenV x.k x.l x.m)], 2⟩], fun _ _ => True, fun _ _ => True] (by kernel_rfl) (by kernel_rfl) (perm_pick (p := [0, 1, 2]) (by kernel_rfl) rfl) qa ?_
 iterate 2 refine gx ?_
 refine TR.call0 (qA rfl) rfl enters62 rfl rfl (v := .agg ([int .i64 0, int .i64 n]).toArray) (fun Z w hZ hs => file_c n w) ?_
 refine gx ?_
 refine TR.call0 (qA rfl) rfl enters71 rfl rfl (v := .agg ([int .i64 x.t, int .i64 (lenV x.k x.l x.m)]).toArray) (fun Z w hZ hs => tgt_c x.k x.t x.f x.l x.A x.m x.c (.inr hk) w) ?_
 refine TR.buildSlice (qA rfl) rfl rfl Tryz.underlying153 size81 zero81 rfl (by decide) (by decide) (cells := #[.int .i64 x.t, .int .i64 (lenV x.k x.l x.m)]) (tot := 2) (by kernel_rfl) (cs := [.int .i64 x.t, .int .i64 (lenV x.k x.l x.m)]) rfl rfl (fun g4 hg4 => ?_)
 refine TR.call0 (qA rfl) rfl enters88 rfl rfl (v := .bool (decide (inside_ 0 n x.t (lenV x.k x.l x.m)))) (fun Z w hZ hs => contains1 0 n x.t (lenV x.k x.l x.m) (by omega) (by omega) g4 (hs.has (⟨g4, 81, [int .i64 x.t, int .i64 (lenV x.k x.l x.m)], 2⟩) (by simp)).lt (lies_row0 (hs.has (⟨g4, 81, [int .i64 x.t, int .i64 (lenV x.k x.l x.m)], 2⟩) (by simp)))) ?_
 iterate 3 refine gx ?_
 refine qC [4, 35] ?_
 refine qQ rfl (fun hq2 => ?_) (fun hq2 => ?_)
 ·iterate 7 refine gx ?_
  exact qN rfl rfl (fun w hs => ⟨ret_i (by unfold singleV; (try unfold inside_ at *); (repeat' split) <;> first | rfl | (exfalso; omega)), ((((hs.drop (by assumption)).drop (by assumption)).drop (by assumption)).drop (by assumption))⟩)
 ·iterate 8 refine gx ?_
  exact qN rfl rfl (fun w hs => ⟨ret_i (by unfold singleV; (try unfold inside_ at *); (repeat' split) <;> first | rfl | (exfalso; omega)), ((((hs.drop (by assumption)).drop (by assumption)).drop (by assumption)).drop (by assumption))⟩)
theorem sg_c (o n : Int) (H1 H2 : List Int) (hH1 : H1.length = 32) (hH2 : H2.length = 32) (A : Option Addr) (m c : Nat) (Cs : List CV) (x : CV) (hok : okLen o n) (hn : NumC x) (w : World) : Calls Tryz.prog 63 #[.agg (dV o n H1 H2 (slice A m c)).toArray, .agg ([int .i64 x.k, int .i64 x.t, int .i64 x.f, int .i64 x.l, slice x.A x.m x.c]).toArray] w fun e w' => e = .returned (.int .i64 (singleV o n x)) ∧ St w [] w' := by
 by_cases hv : codeV x.k x.t x.f x.l x.m = 0
 ·rcases code_kind hv with hk | hk
  ·exact sg_one o n H1 H2 hH1 hH2 A m c Cs x hok hn hv hk w
  ·exact sg_two o n H1 H2 hH1 hH2 A m c Cs x hok hn hv hk w
 ·exact sg_bad o n H1 H2 hH1 hH2 A m c Cs x hok hn hv w
theorem dcheck_c (o n : Int) (H1 H2 : List Int) (hH1 : H1.length = 32) (hH2 : H2.length = 32) (A : Option Addr) (m c : Nat) (Cs : List CV) (hmm : m ≤ 1000000000) (hN : NumsC Cs) (w : World) (hC : SrcC w A m Cs) (hD : DatC w Cs) (bo : -9223372036854775808 ≤ o ∧ o ≤ 9223372036854775807) (bn : -9223372036854775808 ≤ n ∧ n ≤ 9223372036854775807)  : Calls Tryz.prog 35 #[.agg (dV o n H1 H2 (slice A m c)).toArray] w fun e w' => e = .returned (.agg ([int .i64 ((faultI o n Cs).1), int .i64 ((faultI o n Cs).2)]).toArray) ∧ St w [] w' := by
 refine qP (args := [.agg (dV o n H1 H2 (slice A m c)).toArray]) Tryz.func35 rfl Tryz.ntmps35 (by simp) ?_
 refine qC [0] ?_
 iterate 2 refine gx ?_
 refine TL.box (qA rfl) rfl rfl rfl (cs := dV o n H1 H2 (slice A m c)) (by simp [Value.cells]) (tot := 67) (by simp [hH1, hH2]) (fun g1 hg1 => ?_)
 refine qb (fun g2 hg2 => ?_)
 iterate 7 refine gx ?_
 refine qR (qA rfl) rfl enters62 rfl rfl (v := .agg ([int .i64 0, int .i64 o]).toArray) (fun w hs => file_c o w) ?_
 refine qR (qA rfl) rfl enters61 rfl rfl (v := .bool (decide (vld 0 o))) (fun w hs => valid_c 0 o (by omega) (by omega) w) ?_
 refine gx ?_
 by_cases c1 : ¬ (vld 0 o)
 ·have hno : ¬ okLen o n := by unfold okLen; unfold vld at c1; omega
  refine qB (qA rfl) rfl (qi (qV rfl rfl) c1) ?_
  iterate 8 refine gx ?_
  refine qC [1, 2, 17] ?_
  refine qq rfl ?_
  iterate 2 refine gx ?_
  refine qB (qA rfl) rfl (qm rfl (vs := [(0, int .i64 2), (1, int .i64 (-1))]) rfl (fun w => by first | rfl | kernel_rfl) (v := .agg ([int .i64 2, int .i64 (-1)]).toArray)) ?_
  iterate 5 refine gx ?_
  exact qn rfl agg40 size40 rfl (vs := [int .i64 2, int .i64 (-1)]) rfl (qZ (i := 0) (ent := ⟨g2, 40, [int .i64 2, int .i64 (-1)], 2⟩) rfl rfl rfl) (fun w hs => ⟨by rw [faultI_len hno], ((hs.drop (by assumption)).drop (by assumption))⟩)
 ·refine qB (qA rfl) rfl (qg (qV rfl rfl) c1) ?_
  iterate 2 refine gx ?_
  refine qR (qM rfl rfl rfl) rfl enters62 rfl rfl (v := .agg ([int .i64 0, int .i64 n]).toArray) (fun w hs => file_c n w) ?_
  refine qR (qM rfl rfl rfl) rfl enters61 rfl rfl (v := .bool (decide (vld 0 n))) (fun w hs => valid_c 0 n (by omega) (by omega) w) ?_
  iterate 4 refine gx ?_
  refine qC [1, 2, 17] ?_
  refine qQ rfl (fun hq0 => ?_) (fun hq0 => ?_)
  ·have hno : ¬ okLen o n := by unfold okLen; unfold vld at hq0; omega
   iterate 2 refine gx ?_
   refine qB (qA rfl) rfl (qm rfl (vs := [(0, int .i64 2), (1, int .i64 (-1))]) rfl (fun w => by first | rfl | kernel_rfl) (v := .agg ([int .i64 2, int .i64 (-1)]).toArray)) ?_
   iterate 5 refine gx ?_
   exact qn rfl agg40 size40 rfl (vs := [int .i64 2, int .i64 (-1)]) rfl (qZ (i := 0) (ent := ⟨g2, 40, [int .i64 2, int .i64 (-1)], 2⟩) rfl rfl rfl) (fun w hs => ⟨by rw [faultI_len hno], ((hs.drop (by assumption)).drop (by assumption))⟩)
  ·have hok : okLen o n := by unfold okLen; unfold vld at c1 hq0; omega
   iterate 12 refine gx ?_
   refine qe (ι := Nat) (fun i => [(1, .pointer (some ⟨g1, 0, none⟩)), (2, .pointer (some ⟨g2, 0, none⟩)), (20, .slice A m c), (21, .int .i64 (m : Int)), (22, .int .i64 (i : Int))]) (fun i => [⟨g2, 40, [int .i64 0, int .i64 0], 2⟩, ⟨g1, 26, dV o n H1 H2 (slice A m c), 67⟩]) (fun i => m - i) (fun i => i ≤ m ∧ ∀ (j : Nat) (y : CV), j < i → Cs[j]? = some y → singleV o n y = 0) 0 ⟨Nat.zero_le _, fun j y h => absurd h (Nat.not_lt_zero j)⟩ (qH (i := 1) rfl (qH (i := 2) rfl (qL (i := 20) rfl rfl (by first | omega | (dsimp only; omega) | rfl) (by first | omega | (dsimp only; omega) | rfl) (qE (i := 21) rfl (by first | omega | rfl) (qE (i := 22) rfl (by first | omega | rfl) (qK)))))) (fun w h => h) (fun i hC0 => ?_)
   obtain ⟨hC0, hC1⟩ := hC0
   iterate 6 refine gx ?_
   refine qQ rfl (fun hq1 => ?_) (fun hq1 => ?_)
   ·obtain ⟨b, off, hAe, hb, hrw⟩ := hC.some_ (i := i) (by omega)
    subst hAe
    obtain ⟨x, hx⟩ := hC.get (i := i) (by omega)
    have hnx := hN i x hx
    unfold NumC at hnx
    have hlbx := lenV_bd (k := x.k) (l := x.l) (m := x.m) (by omega) (by omega)
    iterate 7 refine gx ?_
    refine qB (qA rfl) rfl (qW rfl Tryz.underlying24 size54 rfl rfl (i := i) (by omega) (by omega) (off' := (off + 5 * i)) (by omega)) ?_
    refine qB (qA rfl) rfl (qh rfl agg54 size54 rfl rfl (Row.old (fun jj u h => hrw i x hx jj u h) hb (qD (by show g2 ≠ b; omega) (qD (by show g1 ≠ b; omega) qF)))) ?_
    refine qb (fun g3 hg3 => ?_)
    iterate 4 refine gx ?_
    refine qC [1, 2, 3, 4, 20, 21, 22] ?_
    iterate 4 refine gx ?_
    refine qR (qA rfl) rfl enters63 rfl rfl (v := .int .i64 (singleV o n x)) (fun w hs => sg_c o n H1 H2 hH1 hH2 (some ⟨b, off, none⟩) m c Cs x hok (hN _ x hx) w) ?_
    iterate 3 refine gx ?_
    refine qC [1, 2, 3, 5, 20, 21, 22] ?_
    iterate 6 refine gx ?_
    refine qC [1, 2, 3, 5, 20, 21, 22, 31] ?_
    refine qQ rfl (fun hq2 => ?_) (fun hq2 => ?_)
    ·iterate 4 refine gx ?_
     refine qB (qA rfl) rfl (qm rfl (vs := [(0, int .i64 (singleV o n x)), (1, int .i64 (i : Int))]) rfl (fun w => by first | rfl | kernel_rfl) (v := .agg ([int .i64 (singleV o n x), int .i64 (i : Int)]).toArray)) ?_
     iterate 9 refine gx ?_
     exact qn rfl agg40 size40 rfl (vs := [int .i64 (singleV o n x), int .i64 (i : Int)]) rfl (qZ (i := 1) (ent := ⟨g2, 40, [int .i64 (singleV o n x), int .i64 (i : Int)], 2⟩) rfl rfl rfl) (fun w hs => ⟨by rw [faultI_single hok hx hq2 hC1], (((hs.drop (by assumption)).drop (by assumption)).drop (by assumption))⟩)
    ·iterate 4 refine gx ?_
     refine qB (qA rfl) rfl (qU rfl rfl rfl (r := ((i : Int) + 1)) (w64 (by omega) (by omega))) ?_
     iterate 2 refine gx ?_
     exact qc (i + 1) (by omega) ⟨by omega, all_succ hC1 hx (by omega)⟩ (qH (i := 1) rfl (qH (i := 2) rfl (qL (i := 20) rfl (by first | rfl | (congr 2; omega)) (by first | omega | (dsimp only; omega) | rfl) (by first | omega | (dsimp only; omega) | rfl) (qE (i := 21) rfl (by first | omega | rfl) (qE (i := 22) rfl (by first | omega | rfl) (qK)))))) (fun w h => (h.erase (i := 0) rfl (by assumption)))
   ·have hall := all_of (m := m) (by have := hC.1; omega) (fun j y hj => hC1 j y (by omega))
    iterate 8 refine gx ?_
    refine qR (qA rfl) rfl enters64 rfl rfl (v := .agg ([int .i64 ((faultI o n Cs).1), int .i64 ((faultI o n Cs).2)]).toArray) (fun w hs => ct_c o n H1 H2 hH1 hH2 A m c Cs (fun i x hx => code_kind (single_vld (hall i x hx)).2.2.2.1) hok hall hmm hN w (hC.at_ hs (fun b hb => (qD (by show g2 ≠ b; omega) (qD (by show g1 ≠ b; omega) qF))))) ?_
    iterate 4 refine gx ?_
    exact qn rfl agg40 size40 rfl (vs := [int .i64 ((faultI o n Cs).1), int .i64 ((faultI o n Cs).2)]) rfl (qZ (i := 0) (ent := ⟨g2, 40, [int .i64 ((faultI o n Cs).1), int .i64 ((faultI o n Cs).2)], 2⟩) rfl rfl rfl) (fun w hs => ⟨rfl, ((hs.drop (by assumption)).drop (by assumption))⟩)
theorem dvalid_c (o n : Int) (H1 H2 : List Int) (hH1 : H1.length = 32) (hH2 : H2.length = 32) (A : Option Addr) (m c : Nat) (Cs : List CV) (hmm : m ≤ 1000000000) (hN : NumsC Cs) (w : World) (hC : SrcC w A m Cs) (hD : DatC w Cs) (bo : -9223372036854775808 ≤ o ∧ o ≤ 9223372036854775807) (bn : -9223372036854775808 ≤ n ∧ n ≤ 9223372036854775807)  : Calls Tryz.prog 48 #[.agg (dV o n H1 H2 (slice A m c)).toArray] w fun e w' => e = .returned (.bool (decide ((faultI o n Cs).1 = 0))) ∧ St w [] w' := by
 refine qP (args := [.agg (dV o n H1 H2 (slice A m c)).toArray]) Tryz.func48 rfl Tryz.ntmps48 (by simp) ?_
 refine qC [0] ?_
 iterate 2 refine gx ?_
 refine TL.box (qA rfl) rfl rfl rfl (cs := dV o n H1 H2 (slice A m c)) (by simp [Value.cells]) (tot := 67) (by simp [hH1, hH2]) (fun g1 hg1 => ?_)
 iterate 6 refine gx ?_
 refine qR (qA rfl) rfl enters35 rfl rfl (v := .agg ([int .i64 ((faultI o n Cs).1), int .i64 ((faultI o n Cs).2)]).toArray) (fun w hs => dcheck_c o n H1 H2 hH1 hH2 A m c Cs hmm hN w (hC.at_ hs (fun b hb => (qD (by show g1 ≠ b; omega) qF))) (hD.at_ hs (fun b hb => (qD (by show g1 ≠ b; omega) qF))) bo bn) ?_
 refine qB (qA rfl) rfl (qm rfl (vs := []) rfl (fun w => by first | rfl | kernel_rfl) (v := .agg ([int .i64 0, int .i64 0]).toArray)) ?_
 refine qB (qA rfl) rfl (Gets.pairEq rfl Tryz.underlying40 (by decide) (by decide) rfl rfl Tryz.underlying38 Tryz.underlying3 sih40 geq40 rfl rfl) ?_
 iterate 4 refine gx ?_
 exact qN rfl rfl (fun w hs => ⟨dec_iff (⟨fun h => h.1, fun h => ⟨h, fault_zero h⟩⟩), (hs.drop (by assumption))⟩)
/-
 The code of layer 5: Totals, Find, Same.
-/
/-
 Clones of commands, with the blocks that hold their bytes.
-/
def OwnB (N : Nat) (Fs : List CV) (He : List Ent) : Prop := (∀ e ∈ He, N ≤ e.g) ∧ NumsC Fs ∧ ∀ w : World, (∀ e ∈ He, e.lies w) → DatC w Fs
def clV (x : CV) (A : Option Addr) (c : Nat) : CV := ⟨x.k, x.t, x.f, x.l, A, x.m, c, x.B⟩
def CloneR (N : Nat) (x : CV) (A : Option Addr) (c : Nat) (He : List Ent) : Prop := (∀ e ∈ He, N ≤ e.g) ∧ NumC (clV x A c) ∧ ∀ w : World, (∀ e ∈ He, e.lies w) → Src w A x.m .u8 x.B ∧ Bytes x.B
theorem CloneR.mono {N N' : Nat} {x : CV} {A : Option Addr} {c : Nat} {He : List Ent} (h : CloneR N' x A c He) (hN : N ≤ N') : CloneR N x A c He := ⟨fun e he => Nat.le_trans hN (h.1 e he), h.2⟩
theorem OwnB.nil (N : Nat) : OwnB N [] [] := ⟨fun e he => (nomatch he), fun i x h => (by simp at h), fun w _ i x h => (by simp at h)⟩
theorem nums_add {Fs : List CV} {z : CV} (h : NumsC Fs) (hz : NumC z) : NumsC (Fs ++ [z]) := fun i x hx => by
 by_cases hi : i < Fs.length
 ·rw [List.getElem?_append_left hi] at hx; exact h i x hx
 ·rw [List.getElem?_append_right (by omega)] at hx
  match hq : i - Fs.length, hx with
  | 0, hx => simp at hx; subst hx; exact hz
  | q + 1, hx => simp at hx
theorem dat_add {w : World} {Fs : List CV} {z : CV} (h : DatC w Fs) (hz : Src w z.A z.m .u8 z.B ∧ Bytes z.B) : DatC w (Fs ++ [z]) := fun i x hx => by
 by_cases hi : i < Fs.length
 ·rw [List.getElem?_append_left hi] at hx; exact h i x hx
 ·rw [List.getElem?_append_right (by omega)] at hx
  match hq : i - Fs.length, hx with
  | 0, hx => simp at hx; subst hx; exact hz
  | q + 1, hx => simp at hx
theorem OwnB.add {N : Nat} {Fs : List CV} {He He' : List Ent} {x : CV} {A : Option Addr} {c : Nat} (h : OwnB N Fs He) (hc : CloneR N x A c He') : OwnB N (Fs ++ [clV x A c]) (He ++ He') :=
 ⟨fun e he => by
  rcases List.mem_append.1 he with he | he
  ·exact h.1 e he
  ·exact hc.1 e he, nums_add h.2.1 hc.2.1, fun w hl => dat_add (h.2.2 w fun e he => hl e (List.mem_append.2 (.inl he))) (hc.2.2 w fun e he => hl e (List.mem_append.2 (.inr he)))⟩
theorem sameE_add {Fs Es : List CV} {i : Nat} {x : CV} {A : Option Addr} {c : Nat} (h : sameE Fs (Es.take i)) (hx : Es[i]? = some x) : sameE (Fs ++ [clV x A c]) (Es.take (i + 1)) := by
 unfold sameE at h ⊢
 rw [List.take_add_one, hx, Option.toList_some, List.map_append, List.map_append, h]
 rfl
def zC : CV := ⟨0, 0, 0, 0, none, 0, 0, []⟩
def stC (Fs : List CV) (r : Nat) : List CV := Fs ++ List.replicate r zC
theorem flatC_cons (z : CV) (R : List CV) : flatC (z :: R) = cellsC z ++ flatC R := by unfold flatC; rw [List.flatMap_cons]
theorem stC_rep (m : Nat) : (List.replicate m [int .i64 0, int .i64 0, int .i64 0, int .i64 0, slice none 0 0]).flatten = flatC (stC [] m) := by
 unfold stC
 rw [List.nil_append]
 induction m with
 | zero => rfl
 | succ m ih => rw [List.replicate_succ, List.replicate_succ, List.flatten_cons, ih, flatC_cons]; rfl
theorem stC_len (Fs : List CV) (r : Nat) : (stC Fs r).length = Fs.length + r := by unfold stC; simp
theorem stC_step {Fs : List CV} {i m : Nat} {z : CV} (hl : Fs.length = i) (hi : i < m) :
  (flatC (stC Fs (m - i))).take (5 * i) ++ cellsC z ++ (flatC (stC Fs (m - i))).drop (5 * i + 5) = flatC (stC (Fs ++ [z]) (m - (i + 1))) := by
 have e1 : stC Fs (m - i) = Fs ++ (zC :: List.replicate (m - (i + 1)) zC) := by
  unfold stC; rw [show m - i = (m - (i + 1)) + 1 by omega, List.replicate_succ]
 have e2 : stC (Fs ++ [z]) (m - (i + 1)) = Fs ++ (z :: List.replicate (m - (i + 1)) zC) := by unfold stC; rw [List.append_assoc]; rfl
 have h3 : (flatC Fs).length = 5 * i := by rw [flatC_len]; omega
 rw [e1, e2, flatC_app, flatC_app, flatC_cons, flatC_cons, List.take_left' h3, List.append_assoc]
 congr 1
 congr 1
 rw [← List.drop_drop, List.drop_left' h3]
 rfl
theorem stC_end {Fs : List CV} {i m : Nat} (h : i = m) : flatC (stC Fs (m - i)) = flatC Fs := by subst h; unfold stC; simp
theorem OwnB.ownD {N g t tot m : Nat} {Fs : List CV} {He : List Ent} {cs : List Value} (h : OwnB N Fs He) (hg : N ≤ g) (hm : Fs.length = m) (hcs : cs = flatC Fs) : OwnD N (some ⟨g, 0, none⟩) m Fs (⟨g, t, cs, tot⟩ :: He) :=
 ⟨fun e he => by
  rcases List.mem_cons.1 he with rfl | he
  ·exact hg
  ·exact h.1 e he, h.2.1, .inr ⟨g, 0, rfl⟩, fun w hl => ⟨lies_srcC (hl _ List.mem_cons_self) hcs hm, h.2.2 w fun e he => hl e (List.mem_cons_of_mem _ he)⟩⟩
theorem with_keep {w0 w : World} {e6 gb : Ent} {R He Hy : List Ent} (h : St w0 (((e6 :: R) ++ He) ++ (([] ++ Hy) ++ [gb])) w) (h6 : w0.heap.size ≤ e6.g) : St w0 ((gb :: R) ++ (He ++ Hy)) w := by
 have hp : (((e6 :: R) ++ He) ++ (([] ++ Hy) ++ [gb])).Perm (e6 :: ((gb :: R) ++ (He ++ Hy))) := by
  rw [List.nil_append]
  show (e6 :: ((R ++ He) ++ (Hy ++ [gb]))).Perm _
  refine List.Perm.cons _ ?_
  rw [← List.append_assoc, ← List.append_assoc]
  refine (List.perm_append_singleton _ _).trans ?_
  rw [List.append_assoc (gb :: R)]
  simp
 exact (h.perm hp).drop h6
/-
 The code of layer 5: Clone, With.
-/
theorem enters68 : Enters Tryz.prog 68 := ⟨_, Tryz.func68, by kernel_rfl, by kernel_rfl⟩
theorem mk54 : (Tryz.prog.info? 54).map (fun i => (i.zero, i.size, i.bytes)) = some (some (.agg #[.int .i64 0, .int .i64 0, .int .i64 0, .int .i64 0, .slice none 0 0]), 5, 56) := by kernel_rfl
theorem clone_any (x : CV) (w : World) (hs : Src w x.A x.m .u8 x.B) (hB : Bytes x.B) (hn : NumC x) : Calls Tryz.prog 68 #[.agg ([int .i64 x.k, int .i64 x.t, int .i64 x.f, int .i64 x.l, slice x.A x.m x.c]).toArray] w fun e w' => ∃ y : (Option Addr × Nat) × List Ent, e = .returned (.agg ([int .i64 x.k, int .i64 x.t, int .i64 x.f, int .i64 x.l, slice y.1.1 x.m y.1.2]).toArray) ∧ CloneR w.heap.size x y.1.1 y.1.2 y.2 ∧ St w y.2 w' := by
 obtain ⟨k, t, f, l, A, m, c, B⟩ := x
 dsimp only at hs hB ⊢
 have hn2 := hn
 unfold NumC at hn2
 dsimp only at hn2
 cases A with
 | none =>
  have hm : m = 0 := by
   rcases hs.2 with h | ⟨b, off, h, _⟩
   ·exact h
   ·cases h
  subst hm
  refine (clone_nil k t f l 0 c w).mono ?_
  rintro e w' ⟨he, hw⟩
  refine ⟨((none, 0), []), he, ⟨fun e he => (nomatch he), ?_, fun W _ => ⟨⟨hs.1, .inl rfl⟩, hB⟩⟩, hw⟩
  unfold NumC clV; dsimp only; omega
 | some ad =>
  refine (clone_some k t f l ad m c B w hs (by omega) (by omega)).mono ?_
  rintro e w' ⟨g, c', he, hg, hmc, hmx, hw⟩
  refine ⟨((some ⟨g, 0, none⟩, c'), [⟨g, 5, B.map (int .u8), c'⟩]), he, ⟨fun e he => (by rw [List.mem_singleton.1 he]; exact hg), ?_, fun W hl => ⟨src_ent (hl _ List.mem_cons_self) hs.1, hB⟩⟩, hw⟩
  unfold maxLen at hmx
  unfold NumC clV; dsimp only; omega
structure WW where
 i : Nat
 Fs : List CV
 He : List Ent
theorem dwith_c (o n : Int) (H1 H2 : List Int) (hH1 : H1.length = 32) (hH2 : H2.length = 32) (A : Option Addr) (m c : Nat) (A2 : Option Addr) (m2 c2 : Nat) (Es : List CV) (hmm2 : m2 ≤ 1000000000) (hN2 : NumsC Es) (w : World) (hC2 : SrcC w A2 m2 Es) (hE : DatC w Es) (hf2 : fewQ Es)  : Calls Tryz.prog 38 #[.agg (dV o n H1 H2 (slice A m c)).toArray, .slice A2 m2 c2] w fun e w' => ∃ A' c' Fs He, e = .returned (.agg (dV o n H1 H2 (slice A' m2 ((c')))).toArray) ∧ (m2 ≤ c' ∧ c' ≤ 9223372036854775807) ∧ OwnD w.heap.size A' m2 Fs He ∧ sameE Fs Es ∧ St w He w' := by
 refine qP (args := [.agg (dV o n H1 H2 (slice A m c)).toArray, .slice A2 m2 c2]) Tryz.func38 rfl Tryz.ntmps38 (by simp) ?_
 refine qC [0, 1] ?_
 iterate 2 refine gx ?_
 refine TL.box (qA rfl) rfl rfl rfl (cs := dV o n H1 H2 (slice A m c)) (by simp [Value.cells]) (tot := 67) (by simp [hH1, hH2]) (fun g1 hg1 => ?_)
 refine zK (qA rfl) rfl rfl zero26 (cs := [int .i64 0, int .i64 0] ++ ((List.replicate 64 0).map (int .u8) ++ ([slice none 0 0]))) rfl (tot := 67) (by simp) (fun g2 hg2 => ?_)
 iterate 6 refine gx ?_
 refine TL.makeSliceS (qA rfl) rfl rfl Tryz.underlying24 mk54 (zs := [int .i64 0, int .i64 0, int .i64 0, int .i64 0, slice none 0 0]) rfl rfl (by decide) rfl rfl (ln := m2) (cp := m2) (by omega) (by omega) (by omega) (by omega) (by omega) (cs := flatC (stC [] m2)) (tot := m2 * 5) (stC_rep m2) rfl (fun g3 hg3 => ?_)
 refine gx ?_
 refine qy (qA rfl) rfl rfl size24 rfl rfl rfl (i := 2) rfl rfl (by simp [hH1, hH2] <;> omega) (cs' := [int .i64 o, int .i64 n] ++ (H1.map (int .u8) ++ (H2.map (int .u8) ++ ([slice (some ⟨g3, 0, none⟩) m2 m2])))) (set_right (a := 2) (i := 64) (rfl) (set_right (a := 32) (i := 32) (ints_len hH1) (set_right (a := 32) (i := 0) (ints_len hH2) (rfl)))) (H' := [⟨g3, 54, flatC (stC [] m2), (m2 * 5)⟩, ⟨g2, 26, [int .i64 0, int .i64 0] ++ ((List.replicate 64 0).map (int .u8) ++ ([slice none 0 0])), 67⟩, ⟨g1, 26, [int .i64 o, int .i64 n] ++ (H1.map (int .u8) ++ (H2.map (int .u8) ++ ([slice (some ⟨g3, 0, none⟩) m2 m2]))), 67⟩]) rfl ?_
 iterate 10 refine gx ?_
 refine qC [2, 4, 11, 12, 13] ?_
 refine gx ?_
 refine qe (ι := WW) (fun x0 => [(2, .pointer (some ⟨g1, 0, none⟩)), (4, .pointer (some ⟨g2, 0, none⟩)), (11, .slice A2 m2 c2), (12, .int .i64 (m2 : Int)), (13, .int .i64 (x0.i : Int))]) (fun x0 => [⟨g3, 54, flatC (stC x0.Fs (m2 - x0.i)), (m2 * 5)⟩, ⟨g2, 26, [int .i64 0, int .i64 0] ++ ((List.replicate 64 0).map (int .u8) ++ ([slice none 0 0])), 67⟩, ⟨g1, 26, [int .i64 o, int .i64 n] ++ (H1.map (int .u8) ++ (H2.map (int .u8) ++ ([slice (some ⟨g3, 0, none⟩) m2 m2]))), 67⟩] ++ x0.He) (fun x0 => m2 - x0.i) (fun x0 => OwnB w.heap.size x0.Fs x0.He ∧ sameE x0.Fs (Es.take x0.i) ∧ x0.i ≤ m2) (⟨0, [], []⟩ : WW) ⟨OwnB.nil _, rfl, Nat.zero_le _⟩ (qH (i := 2) rfl (qH (i := 4) rfl (qL (i := 11) rfl rfl (by first | omega | (dsimp only; omega) | rfl) (by first | omega | (dsimp only; omega) | rfl) (qE (i := 12) rfl (by first | omega | rfl) (qE (i := 13) rfl rfl (qK)))))) (fun w h => by rw [List.append_nil]; exact h) (fun x0 hC0 => ?_)
 obtain ⟨i, Fs, He⟩ := x0
 obtain ⟨hOw, hsm, him⟩ := hC0
 dsimp only at hOw hsm him ⊢
 have hF : Fresh w He := hOw.1
 have hFl : Fs.length = i := by have h1 := hsm.len; have h2 := hC2.1; rw [List.length_take] at h1; omega
 iterate 6 refine gx ?_
 refine qQ rfl (fun hq0 => ?_) (fun hq0 => ?_)
 ·obtain ⟨b, off, hAe, hb, hrw⟩ := hC2.some_ (i := i) (by omega)
  subst hAe
  obtain ⟨x, hx⟩ := hC2.get (i := i) (by omega)
  iterate 7 refine gx ?_
  refine qB (qA rfl) rfl (qW rfl Tryz.underlying24 size54 rfl rfl (i := i) (by omega) (by omega) (off' := (off + 5 * i)) (by omega)) ?_
  refine qB (qA rfl) rfl (qh rfl agg54 size54 rfl rfl (Row.old (fun jj u h => hrw i x hx jj u h) hb (qY (qD (by show g3 ≠ b; omega) (qD (by show g2 ≠ b; omega) (qD (by show g1 ≠ b; omega) qF))) (hF.ne hb)))) ?_
  refine qb (fun g4 hg4 => ?_)
  refine gx ?_
  refine qz (qA rfl) rfl rfl size54 rfl (vs := [int .i64 x.k, int .i64 x.t, int .i64 x.f, int .i64 x.l, slice x.A x.m x.c]) rfl (by simp []) (by simp [Value.oneCell']) (i := 0) (ent := ⟨g4, 54, [int .i64 0, int .i64 0, int .i64 0, int .i64 0, slice none 0 0], 5⟩) rfl rfl (by simp []) (H' := [⟨g4, 54, [int .i64 x.k, int .i64 x.t, int .i64 x.f, int .i64 x.l, slice x.A x.m x.c], 5⟩, ⟨g3, 54, flatC (stC Fs (m2 - i)), (m2 * 5)⟩, ⟨g2, 26, [int .i64 0, int .i64 0] ++ ((List.replicate 64 0).map (int .u8) ++ ([slice none 0 0])), 67⟩, ⟨g1, 26, [int .i64 o, int .i64 n] ++ (H1.map (int .u8) ++ (H2.map (int .u8) ++ ([slice (some ⟨g3, 0, none⟩) m2 m2]))), 67⟩] ++ He) rfl ?_
  iterate 2 refine gx ?_
  refine qC [2, 4, 5, 6, 11, 12, 13] ?_
  refine TC.mixS ([Ent.mk g4 54 ([int .i64 x.k, int .i64 x.t, int .i64 x.f, int .i64 x.l, slice x.A x.m x.c]) 5, Ent.mk g2 26 ([int .i64 0, int .i64 0] ++ ((List.replicate 64 0).map (int .u8) ++ ([slice none 0 0]))) 67, Ent.mk g1 26 ([int .i64 o, int .i64 n] ++ (H1.map (int .u8) ++ (H2.map (int .u8) ++ ([slice (some ⟨g3, 0, none⟩) m2 m2])))) 67] ++ He) [⟨g3, 54, flatC (stC Fs (m2 - i)), (m2 * 5)⟩] (by kernel_rfl) [0, 1, 0, 1, 3, 0, 4] [0, 1, 2, 3, 4, 5, 6] [fun _ _ => True, fun _ _ => True, fun _ _ => True, fun _ _ => True, fun v e => ∃ y : (Option Addr × Nat) × List Ent, (CloneR w.heap.size x y.1.1 y.1.2 y.2) ∧ v = .agg ([int .i64 x.k, int .i64 x.t, int .i64 x.f, int .i64 x.l, slice y.1.1 x.m y.1.2]).toArray ∧ e = y.2, fun _ _ => True, fun _ _ => True] (by kernel_rfl) (by kernel_rfl) (perm_midE (A := [Ent.mk g4 54 ([int .i64 x.k, int .i64 x.t, int .i64 x.f, int .i64 x.l, slice x.A x.m x.c]) 5]) (g := Ent.mk g3 54 (flatC (stC Fs (m2 - i))) (m2 * 5)) (B := [Ent.mk g2 26 ([int .i64 0, int .i64 0] ++ ((List.replicate 64 0).map (int .u8) ++ ([slice none 0 0]))) 67, Ent.mk g1 26 ([int .i64 o, int .i64 n] ++ (H1.map (int .u8) ++ (H2.map (int .u8) ++ ([slice (some ⟨g3, 0, none⟩) m2 m2])))) 67] ++ He)) (qI (by assumption) qa) ?_
  iterate 4 refine gx ?_
  refine TR.call3 (ι := (Option Addr × Nat) × List Ent) (V := fun y => .agg ([int .i64 x.k, int .i64 x.t, int .i64 x.f, int .i64 x.l, slice y.1.1 x.m y.1.2]).toArray) (R := fun y => CloneR w.heap.size x y.1.1 y.1.2 y.2) (E := fun y => y.2) (qA rfl) rfl enters68 rfl rfl (fun Z w hZ hs => (clone_any x w ((hE i x hx).1.at_ hs (fun b hb => (qY (qY (qD (by show g4 ≠ b; omega) (qD (by show g2 ≠ b; omega) (qD (by show g1 ≠ b; omega) qF))) (hF.ne hb)) (hZ.ne hb)))) (hE i x hx).2 (hN2 i x hx)).mono fun e w' ⟨y, he, hR, hw⟩ => ⟨y, he, hR.mono hs.size, hR.1, hw⟩) (fun y hR hFy => ?_)
  refine TR.free (qA rfl) rfl (fun _ => qW rfl Tryz.underlying24 size54 rfl rfl (i := i) (by omega) (by omega) (off' := (5 * i)) (by omega)) ?_
  refine TR.storeN (qA rfl) rfl rfl size54 rfl (vs := [int .i64 x.k, int .i64 x.t, int .i64 x.f, int .i64 x.l, slice y.1.1 x.m y.1.2]) rfl rfl (by simp [Value.oneCell']) (i := 0) (ent := ⟨g3, 54, flatC (stC Fs (m2 - i)), (m2 * 5)⟩) rfl rfl (by show (5 * i) + 5 ≤ (flatC (stC Fs (m2 - i))).length; rw [flatC_len, stC_len]; omega) (cs' := flatC (stC (Fs ++ [clV x y.1.1 y.1.2]) (m2 - (i + 1)))) (stC_step (i := i) (m := m2) (z := clV x y.1.1 y.1.2) hFl (by omega)) (D' := [⟨g3, 54, flatC (stC (Fs ++ [clV x y.1.1 y.1.2]) (m2 - (i + 1))), (m2 * 5)⟩]) rfl (qI (by assumption) qa) ?_
  refine gx ?_
  refine TE.heap (H' := [Ent.mk g3 54 (flatC (stC (Fs ++ [clV x y.1.1 y.1.2]) (m2 - (i + 1)))) (m2 * 5), Ent.mk g2 26 ([int .i64 0, int .i64 0] ++ ((List.replicate 64 0).map (int .u8) ++ ([slice none 0 0]))) 67, Ent.mk g1 26 ([int .i64 o, int .i64 n] ++ (H1.map (int .u8) ++ (H2.map (int .u8) ++ ([slice (some ⟨g3, 0, none⟩) m2 m2])))) 67] ++ (He ++ y.2)) (fun w h => with_keep h (by assumption)) ?_
  have hOw2 := hOw.add hR
  have hF2 : Fresh w (He ++ y.2) := hOw2.1
  iterate 2 refine gx ?_
  refine qC [2, 4, 11, 12, 13] ?_
  refine gx ?_
  refine qB (qA rfl) rfl (qU rfl rfl rfl (r := ((i : Int) + 1)) (w64 (by omega) (by omega))) ?_
  iterate 2 refine gx ?_
  exact qc (⟨i + 1, Fs ++ [clV x y.1.1 y.1.2], He ++ y.2⟩ : WW) (by show m2 - (i + 1) < m2 - i; omega) ⟨hOw2, sameE_add hsm hx, (by show i + 1 ≤ m2; omega)⟩ (qH (i := 2) rfl (qH (i := 4) rfl (qL (i := 11) rfl (by first | rfl | (congr 2; omega)) (by first | omega | (dsimp only; omega) | rfl) (by first | omega | (dsimp only; omega) | rfl) (qE (i := 12) rfl (by first | omega | rfl) (qE (i := 13) rfl rfl (qK)))))) (fun w h => h)
 ·have hiq : i = m2 := by omega
  have hsmE : sameE Fs Es := by rw [List.take_of_length_le (by have := hC2.1; omega)] at hsm; exact hsm
  iterate 8 refine gx ?_
  refine qz (qA rfl) rfl rfl size26 rfl (vs := [int .i64 o, int .i64 n] ++ (H1.map (int .u8) ++ (H2.map (int .u8) ++ ([slice (some ⟨g3, 0, none⟩) m2 m2])))) rfl (by simp [hH1, hH2]) (zH (by simp [Value.oneCell']) (zH qk (zH qk (by simp [Value.oneCell'])))) (i := 1) (ent := ⟨g2, 26, [int .i64 0, int .i64 0] ++ ((List.replicate 64 0).map (int .u8) ++ ([slice none 0 0])), 67⟩) rfl rfl (by simp []) (H' := [⟨g3, 54, flatC (stC Fs (m2 - i)), (m2 * 5)⟩, ⟨g2, 26, [int .i64 o, int .i64 n] ++ (H1.map (int .u8) ++ (H2.map (int .u8) ++ ([slice (some ⟨g3, 0, none⟩) m2 m2]))), 67⟩, ⟨g1, 26, [int .i64 o, int .i64 n] ++ (H1.map (int .u8) ++ (H2.map (int .u8) ++ ([slice (some ⟨g3, 0, none⟩) m2 m2]))), 67⟩] ++ He) rfl ?_
  iterate 3 refine gx ?_
  exact qn rfl agg26 size26 rfl (vs := [int .i64 o, int .i64 n] ++ (H1.map (int .u8) ++ (H2.map (int .u8) ++ ([slice (some ⟨g3, 0, none⟩) m2 m2])))) (by simp [hH1, hH2]) (qZ (i := 1) (ent := ⟨g2, 26, [int .i64 o, int .i64 n] ++ (H1.map (int .u8) ++ (H2.map (int .u8) ++ ([slice (some ⟨g3, 0, none⟩) m2 m2]))), 67⟩) rfl rfl rfl) (fun w hs => ⟨some ⟨g3, 0, none⟩, m2, Fs, _, rfl, ⟨Nat.le_refl _, by omega⟩, hOw.ownD hg3 (hFl.trans hiq) (stC_end hiq), hsmE, (hs.erase (i := 1) rfl (by assumption)).erase (i := 1) rfl (by assumption)⟩)
/-
 The code of layer 5: Sort.
-/
theorem enters38 : Enters Tryz.prog 38 := ⟨_, Tryz.func38, by kernel_rfl, by kernel_rfl⟩
/-
 Mathematics of the new file: the byte that belongs to an offset; it does not depend on the order of the commands.
-/
def atV (B : List Int) (x : CV) (p : Int) : Int := if x.k = 1 then B.getD (x.f + p - x.t).toNat 0 else x.B.getD (p - x.t).toNat 0
noncomputable def byteI (B : List Int) (Cs : List CV) (p : Int) : Int := match Cs[(findI Cs p).toNat]? with
 | some x => atV B x p
 | none => 0
noncomputable def newB (B : List Int) (Cs : List CV) (n : Int) : List Int := (List.range n.toNat).map fun i : Nat => byteI B Cs i
theorem newB_len {B : List Int} {Cs : List CV} {n : Int} : (newB B Cs n).length = n.toNat := by simp [newB]
theorem newB_get {B : List Int} {Cs : List CV} {n : Int} {i : Nat} (hi : (i : Int) < n) : (newB B Cs n)[i]? = some (byteI B Cs i) := by
 unfold newB; rw [List.getElem?_map, List.getElem?_range (by omega)]; rfl
theorem find_at {Cs : List CV} {a N p : Int} (ht : tidyT a N (Cs.map tg)) {i : Nat} {x : CV} (hx : Cs[i]? = some x) (hb : hasB (tg x) p) : findI Cs p = i := findI_is (.inr ⟨i, x, rfl, hx, hb, fun j y hj hy hb' => by
 have hil := (List.getElem?_eq_some_iff.1 hx).1
 have h1 := List.pairwise_iff_getElem.1 ht.2 j i (by simpa using (List.getElem?_eq_some_iff.1 hy).1) (by simpa using hil) hj
 simp only [List.getElem_map, (List.getElem?_eq_some_iff.1 hx).2, (List.getElem?_eq_some_iff.1 hy).2] at h1
 unfold apartT at h1; unfold hasB at hb hb'
 omega⟩)
theorem byteI_of {B : List Int} {Cs : List CV} {a N p : Int} (ht : tidyT a N (Cs.map tg)) {i : Nat} {x : CV} (hx : Cs[i]? = some x) (hb : hasB (tg x) p) : byteI B Cs p = atV B x p := by
 unfold byteI; rw [find_at ht hx hb, Int.toNat_natCast, hx]
theorem ValidC.find {o n p : Int} {Cs : List CV} (h : ValidC o n Cs) (h0 : 0 ≤ p) (hp : p < n) : ∃ (i : Nat) (x : CV), findI Cs p = i ∧ Cs[i]? = some x ∧ hasB (tg x) p := by
 obtain ⟨q, hq, hb⟩ := h.cover p h0 hp
 obtain ⟨x, hx, rfl⟩ := List.mem_map.1 hq
 obtain ⟨i, hi⟩ := List.mem_iff_getElem?.1 hx
 exact ⟨i, x, find_at h.tidy hi hb, hi, hb⟩
/-
 Mathematics of the greedy commands from one file to another.
-/
def eqN : List Int → List Int → Nat
 | x :: a, y :: b => if x = y then eqN a b + 1 else 0
 | _, _ => 0
theorem eqN_le : ∀ a b : List Int, eqN a b ≤ a.length ∧ eqN a b ≤ b.length
 | [], b => by simp [eqN]
 | _ :: _, [] => by simp [eqN]
 | x :: a, y :: b => by
  have := eqN_le a b
  unfold eqN; split <;> simp only [List.length_cons] <;> omega
theorem eqN_take : ∀ a b : List Int, a.take (eqN a b) = b.take (eqN a b)
 | [], b => by simp [eqN]
 | _ :: _, [] => by simp [eqN]
 | x :: a, y :: b => by
  unfold eqN; split
  ·rename_i h; rw [List.take_succ_cons, List.take_succ_cons, h, eqN_take a b]
  ·rfl
theorem eqN_nil {a b : List Int} (h : a = [] ∨ b = []) : eqN a b = 0 := by
 have := eqN_le a b
 rcases h with rfl | rfl <;> simp at this <;> omega
theorem getD_in {a : List Int} {n : Nat} (h : n < a.length) : a.getD n 0 = a[n] := by
 rw [List.getD_eq_getElem?_getD, List.getElem?_eq_getElem h]; rfl
theorem eqN_yes {a b : List Int} {n : Nat} (ha : n < a.length) (hb : n < b.length) (h : a.getD n 0 = b.getD n 0) : eqN (a.drop n) (b.drop n) = eqN (a.drop (n + 1)) (b.drop (n + 1)) + 1 := by
 rw [List.drop_eq_getElem_cons ha, List.drop_eq_getElem_cons hb]
 rw [getD_in ha, getD_in hb] at h
 show (if a[n] = b[n] then _ else _) = _
 rw [if_pos h]
theorem eqN_no {a b : List Int} {n : Nat} (ha : n < a.length) (hb : n < b.length) (h : ¬ a.getD n 0 = b.getD n 0) : eqN (a.drop n) (b.drop n) = 0 := by
 rw [List.drop_eq_getElem_cons ha, List.drop_eq_getElem_cons hb]
 rw [getD_in ha, getD_in hb] at h
 show (if a[n] = b[n] then _ else _) = _
 rw [if_neg h]
theorem eqN_end {a b : List Int} {n : Nat} (h : a.length ≤ n ∨ b.length ≤ n) : eqN (a.drop n) (b.drop n) = 0 := eqN_nil (by rcases h with h | h; exact .inl (List.drop_eq_nil_of_le h); exact .inr (List.drop_eq_nil_of_le h))
def matchI (old b : List Int) (k : Int) : Option Nat := if k < 1 ∨ (b.length : Int) < k then none else (List.range old.length).find? fun q => decide (k ≤ eqN (old.drop q) b)
theorem matchI_no {old b : List Int} {k : Int} (h : k < 1 ∨ (b.length : Int) < k) : matchI old b k = none := if_pos h
theorem matchI_none {old b : List Int} {k : Int} {q : Nat} (hq : (old.length : Int) < q + k) (h : ∀ q' : Nat, q' < q → ¬ k ≤ (eqN (old.drop q') b : Int)) : matchI old b k = none := by
 unfold matchI
 split
 ·rfl
 ·rename_i hk
  rw [List.find?_range_eq_none]
  intro i hi
  by_cases hiq : i < q
  ·simp [h i hiq]
  ·have := (eqN_le (old.drop i) b).1
   rw [List.length_drop] at this
   simp; omega
theorem matchI_some {old b : List Int} {k : Int} {q : Nat} (h1 : 1 ≤ k) (h2 : k ≤ eqN (old.drop q) b) (h : ∀ q' : Nat, q' < q → ¬ k ≤ (eqN (old.drop q') b : Int)) : matchI old b k = some q := by
 have h3 := eqN_le (old.drop q) b
 rw [List.length_drop] at h3
 unfold matchI
 rw [if_neg (by omega), List.find?_range_eq_some]
 refine ⟨by simpa using h2, List.mem_range.2 (by omega), fun j hj => by simpa using h j hj⟩
theorem matchI_spec {old b : List Int} {k : Int} {q : Nat} (h : matchI old b k = some q) : 1 ≤ k ∧ k ≤ eqN (old.drop q) b ∧ q + eqN (old.drop q) b ≤ old.length ∧ eqN (old.drop q) b ≤ b.length := by
 unfold matchI at h
 split at h
 ·cases h
 ·rename_i hk
  rw [List.find?_range_eq_some] at h
  have h1 : k ≤ eqN (old.drop q) b := by simpa using h.1
  have h2 := eqN_le (old.drop q) b
  rw [List.length_drop] at h2
  omega
abbrev PC := Int × Int × Int × Int × List Int
def lastLit (out : List PC) : Bool := match out.getLast? with
 | some c => decide (c.1 = 2)
 | none => false
def addLit (c : PC) (x : Int) : PC := (c.1, c.2.1, c.2.2.1, c.2.2.2.1, c.2.2.2.2 ++ [x])
def pushL (out : List PC) (p : Nat) (x : Int) : List PC := match out.getLast? with
 | some c => if c.1 = 2 then out.dropLast ++ [addLit c x] else out ++ [(2, (p : Int), 0, 0, [x])]
 | none => out ++ [(2, (p : Int), 0, 0, [x])]
def stepC (old new : List Int) (k : Int) (p : Nat) (out : List PC) : Nat × List PC := match matchI old (new.drop p) k with
 | some q => (p + eqN (old.drop q) (new.drop p), out ++ [(1, (p : Int), (q : Int), (eqN (old.drop q) (new.drop p) : Int), [])])
 | none => (p + 1, pushL out p (new.getD p 0))
def runC (old new : List Int) (k : Int) : Nat → Nat → List PC → List PC
 | 0, _, out => out
 | f + 1, p, out => if p < new.length then runC old new k f (stepC old new k p out).1 (stepC old new k p out).2 else out
theorem stepC_gt {old new : List Int} {k : Int} {p : Nat} {out : List PC} : p + 1 ≤ (stepC old new k p out).1 := by
 unfold stepC; split
 ·rename_i h; have := matchI_spec h; dsimp only; omega
 ·exact Nat.le_refl _
theorem stepC_le {old new : List Int} {k : Int} {p : Nat} {out : List PC} (hp : p < new.length) : (stepC old new k p out).1 ≤ new.length := by
 unfold stepC; split
 ·rename_i h; have := matchI_spec h; rw [List.length_drop] at this; dsimp only; omega
 ·exact hp
theorem runC_end {old new : List Int} {k : Int} {p : Nat} {out : List PC} (hp : new.length ≤ p) : ∀ f, runC old new k f p out = out
 | 0 => rfl
 | f + 1 => by unfold runC; rw [if_neg (by omega)]
theorem runC_fuel {old new : List Int} {k : Int} : ∀ (f g p : Nat) (out : List PC), new.length ≤ p + f → new.length ≤ p + g → runC old new k f p out = runC old new k g p out
 | 0, g, p, out, h1, h2 => (runC_end (by omega) g).symm
 | f + 1, 0, p, out, h1, h2 => runC_end (by omega) (f + 1)
 | f + 1, g + 1, p, out, h1, h2 => by
  unfold runC
  split
  ·have := stepC_gt (old := old) (new := new) (k := k) (p := p) (out := out)
   exact runC_fuel f g _ _ (by omega) (by omega)
  ·rfl
def cmdsL (old new : List Int) (k : Int) : List PC := runC old new k new.length 0 []
def greedy (old new : List Int) (k : Int) (p : Nat) (out : List PC) : Prop := p ≤ new.length ∧ runC old new k (new.length - p) p out = cmdsL old new k
theorem greedy_zero (old new : List Int) (k : Int) : greedy old new k 0 [] := ⟨Nat.zero_le _, rfl⟩
theorem greedy_end {old new : List Int} {k : Int} {p : Nat} {out : List PC} (h : greedy old new k p out) (hp : new.length ≤ p) : out = cmdsL old new k := by rw [← h.2, runC_end hp]
theorem greedy_step {old new : List Int} {k : Int} {p : Nat} {out : List PC} (h : greedy old new k p out) (hp : p < new.length) : greedy old new k (stepC old new k p out).1 (stepC old new k p out).2 := by
 refine ⟨stepC_le hp, ?_⟩
 rw [← h.2]
 have h1 := stepC_gt (old := old) (new := new) (k := k) (p := p) (out := out)
 obtain ⟨f, hf⟩ : ∃ f, new.length - p = f + 1 := ⟨new.length - p - 1, by omega⟩
 rw [hf]
 show _ = if p < new.length then _ else _
 rw [if_pos hp]
 exact runC_fuel _ _ _ _ (by omega) (by omega)
theorem greedy_copy {old new : List Int} {k : Int} {p q : Nat} {out : List PC} (h : greedy old new k p out) (hp : p < new.length) (hq : matchI old (new.drop p) k = some q) : greedy old new k (p + eqN (old.drop q) (new.drop p)) (out ++ [(1, (p : Int), (q : Int), (eqN (old.drop q) (new.drop p) : Int), [])]) := by
 have := greedy_step h hp
 unfold stepC at this; rw [hq] at this; exact this
theorem greedy_lit {old new : List Int} {k : Int} {p : Nat} {out : List PC} (h : greedy old new k p out) (hp : p < new.length) (hq : matchI old (new.drop p) k = none) : greedy old new k (p + 1) (pushL out p (new.getD p 0)) := by
 have := greedy_step h hp
 unfold stepC at this; rw [hq] at this; exact this
def lenPC (c : PC) : Int := if c.1 = 1 then c.2.2.2.1 else (c.2.2.2.2.length : Int)
def tgP (c : PC) : Int × Int := (c.2.1, lenPC c)
def segP (old : List Int) (c : PC) : List Int := if c.1 = 1 then (old.drop c.2.2.1.toNat).take c.2.2.2.1.toNat else c.2.2.2.2
def okPC (old : List Int) (c : PC) : Prop := (c.1 = 1 ∧ 0 ≤ c.2.2.1 ∧ 1 ≤ c.2.2.2.1 ∧ c.2.2.1 + c.2.2.2.1 ≤ old.length ∧ c.2.2.2.2 = []) ∨ (c.1 = 2 ∧ c.2.2.1 = 0 ∧ c.2.2.2.1 = 0 ∧ c.2.2.2.2 ≠ [])
def leads (old new : List Int) (p : Nat) (out : List PC) : Prop := (∀ c ∈ out, okPC old c) ∧ chainT 0 (out.map tgP) ∧ sumT (out.map tgP) = p ∧ (out.map (segP old)).flatten = new.take p
theorem chain_snoc : ∀ {l : List (Int × Int)} {a : Int} {p : Int × Int}, chainT a l → p.1 = a + sumT l → chainT a (l ++ [p])
 | [], a, p, _, h => ⟨by simpa [sumT] using h, trivial⟩
 | q :: l, a, p, hc, h => by
  rw [sumT_cons] at h
  exact ⟨hc.1, chain_snoc hc.2 (by omega)⟩
theorem chain_init : ∀ {l : List (Int × Int)} {a : Int} {p : Int × Int}, chainT a (l ++ [p]) → chainT a l ∧ p.1 = a + sumT l
 | [], a, p, h => ⟨trivial, by simpa [sumT] using h.1⟩
 | q :: l, a, p, h => by
  have := chain_init (l := l) h.2
  rw [sumT_cons]
  exact ⟨⟨h.1, this.1⟩, by omega⟩
theorem leads_zero (old new : List Int) : leads old new 0 [] := ⟨(fun c h => by cases h), trivial, rfl, by simp⟩
theorem leads_app {old new : List Int} {p n : Nat} {out : List PC} {c : PC} (h : leads old new p out) (hc : okPC old c) (ht : c.2.1 = p) (hn : lenPC c = n) (hs : segP old c = (new.drop p).take n) : leads old new (p + n) (out ++ [c]) := by
 obtain ⟨h1, h2, h3, h4⟩ := h
 refine ⟨fun d hd => ?_, ?_, ?_, ?_⟩
 ·rcases List.mem_append.1 hd with h | h
  ·exact h1 d h
  ·cases List.mem_singleton.1 h; exact hc
 ·rw [List.map_append]; exact chain_snoc h2 (by show c.2.1 = _; rw [ht, h3]; omega)
 ·rw [List.map_append, sumT_app, h3]; simp only [List.map_cons, List.map_nil, sumT, tgP, hn]; simp
 ·rw [List.map_append, List.flatten_append, h4]
  simp only [List.map_cons, List.map_nil, List.flatten_cons, List.flatten_nil, List.append_nil]
  rw [hs, List.take_add]
theorem leads_lit {old new : List Int} {p : Nat} {out : List PC} (h : leads old new p out) (hp : p < new.length) : leads old new (p + 1) (pushL out p (new.getD p 0)) := by
 have h1 : [new.getD p 0] = (new.drop p).take 1 := by
  rw [List.drop_eq_getElem_cons hp, getD_in hp]; rfl
 have hA : leads old new (p + 1) (out ++ [(2, (p : Int), 0, 0, [new.getD p 0])]) := leads_app h (.inr ⟨rfl, rfl, rfl, by simp⟩) rfl rfl h1
 unfold pushL
 split
 ·rename_i c hc
  by_cases hk : c.1 = 2
  ·rw [if_pos hk]
   have hne : out ≠ [] := by rintro rfl; cases hc
   have ho : out = out.dropLast ++ [c] := by
    rw [List.getLast?_eq_some_getLast hne] at hc
    cases hc; exact (List.dropLast_concat_getLast hne).symm
   obtain ⟨h1', h2', h3', h4'⟩ := h
   rw [ho] at h1' h2' h3' h4'
   generalize out.dropLast = L at *
   have hc1 := h1' c (by simp)
   have hc2 : ¬ c.1 = 1 := by omega
   rw [List.map_append] at h2' h3' h4'
   obtain ⟨k1, k2⟩ := chain_init h2'
   rw [sumT_app] at h3'
   simp only [List.map_cons, List.map_nil, sumT, List.sum_cons, List.sum_nil, Int.add_zero] at h3'
   refine ⟨fun d hd => ?_, ?_, ?_, ?_⟩
   ·rcases List.mem_append.1 hd with h | h
    ·exact h1' d (by simp [h])
    ·cases List.mem_singleton.1 h
     rcases hc1 with h | h
     ·omega
     ·exact .inr ⟨hk, h.2.1, h.2.2.1, by simp [addLit]⟩
   ·rw [List.map_append]; exact chain_snoc k1 k2
   ·rw [List.map_append, sumT_app]
    simp only [List.map_cons, List.map_nil, sumT, List.sum_cons, List.sum_nil, Int.add_zero]
    unfold tgP lenPC at h3' ⊢
    unfold addLit
    simp only [if_neg hc2, List.length_append, List.length_singleton] at h3' ⊢
    omega
   ·rw [List.map_append, List.flatten_append]
    rw [List.flatten_append] at h4'
    simp only [List.map_cons, List.map_nil, List.flatten_cons, List.flatten_nil, List.append_nil] at h4' ⊢
    have e1 : segP old (addLit c (new.getD p 0)) = segP old c ++ [new.getD p 0] := by
     unfold segP addLit; simp only [if_neg hc2]
    rw [e1, ← List.append_assoc, h4', h1, List.take_add]
  ·rw [if_neg hk]; exact hA
 ·exact hA
theorem leads_step {old new : List Int} {k : Int} {p : Nat} {out : List PC} (h : leads old new p out) (hp : p < new.length) : leads old new (stepC old new k p out).1 (stepC old new k p out).2 := by
 unfold stepC
 split
 ·rename_i q hq
  have h1 := matchI_spec hq
  refine leads_app h (.inl ⟨rfl, by dsimp only; omega, by dsimp only; omega, by dsimp only; omega, rfl⟩) rfl (by unfold lenPC; rw [if_pos rfl]) ?_
  unfold segP; rw [if_pos rfl]
  simp only [Int.toNat_natCast]
  exact eqN_take _ _
 ·exact leads_lit h hp
theorem leads_run {old new : List Int} {k : Int} : ∀ (f p : Nat) (out : List PC), new.length ≤ p + f → p ≤ new.length → leads old new p out → leads old new new.length (runC old new k f p out)
 | 0, p, out, h1, h2, h => by
  obtain rfl : p = new.length := by omega
  exact h
 | f + 1, p, out, h1, h2, h => by
  unfold runC
  split
  ·rename_i hp
   have := stepC_gt (old := old) (new := new) (k := k) (p := p) (out := out)
   exact leads_run f _ _ (by omega) (stepC_le hp) (leads_step h hp)
  ·obtain rfl : p = new.length := by omega
   exact h
theorem cmdsL_leads (old new : List Int) (k : Int) : leads old new new.length (cmdsL old new k) := leads_run new.length 0 [] (by omega) (Nat.zero_le _) (leads_zero old new)
/-
 Commands that lead from one file to another: they are valid, and their new file is the other one.
-/
theorem tg_val {x : CV} (hm : x.m = x.B.length) : tgP (valC x) = tg x := by
 unfold tgP lenPC valC tg lenV; dsimp only; rw [hm]
theorem tgs_val {Cs : List CV} (hm : ∀ x ∈ Cs, x.m = x.B.length) : (Cs.map valC).map tgP = Cs.map tg := by
 rw [List.map_map]; exact List.map_congr_left fun x hx => tg_val (hm x hx)
theorem seg_at {old : List Int} {x : CV} (h : okPC old (valC x)) (hm : x.m = x.B.length) : segP old (valC x) = (List.range (tg x).2.toNat).map fun j : Nat => atV old x (x.t + j) := by
 unfold okPC valC at h; dsimp only at h
 apply List.ext_getElem?
 intro j
 unfold segP tg lenV valC atV; dsimp only
 rw [List.getElem?_map]
 rcases h with ⟨h1, h2, h3, h4, h5⟩ | ⟨h1, h2, h3, h4⟩
 ·rw [if_pos h1, if_pos h1, List.getElem?_take]
  by_cases hj : j < x.l.toNat
  ·rw [if_pos hj, List.getElem?_range hj, List.getElem?_drop, List.getElem?_eq_getElem (by omega)]
   simp only [Option.map_some, if_pos h1]
   rw [show (x.f + (x.t + (j : Int)) - x.t).toNat = x.f.toNat + j by omega, getD_in (by omega)]
  ·rw [if_neg hj, List.getElem?_eq_none (by simp; omega)]; rfl
 ·have hk : ¬ x.k = 1 := by omega
  rw [if_neg hk, if_neg hk, hm, Int.toNat_natCast]
  by_cases hj : j < x.B.length
  ·rw [List.getElem?_range hj, List.getElem?_eq_getElem hj]
   simp only [Option.map_some, if_neg hk]
   rw [show (x.t + (j : Int) - x.t).toNat = j by omega, getD_in hj]
  ·rw [List.getElem?_eq_none (by omega), List.getElem?_eq_none (by simp; omega)]; rfl
theorem map_range'_add (f : Nat → Int) (a n : Nat) : (List.range' a n).map f = (List.range n).map fun j => f (a + j) := by
 rw [List.range'_eq_map_range, List.map_map]; rfl
theorem byte_chain {old : List Int} {Cs : List CV} {N : Int} (ht : tidyT 0 N (Cs.map tg)) (hok : ∀ x ∈ Cs, okPC old (valC x) ∧ x.m = x.B.length) : ∀ (suf pre : List CV) (a : Nat), Cs = pre ++ suf → chainT a (suf.map tg) → (List.range' a (sumT (suf.map tg)).toNat).map (fun i : Nat => byteI old Cs i) = ((suf.map valC).map (segP old)).flatten
 | [], pre, a, _, _ => by simp [sumT]
 | x :: suf, pre, a, hC, hc => by
  obtain ⟨h1, h2⟩ := hc
  have hx : Cs[pre.length]? = some x := by rw [hC, List.getElem?_append_right (Nat.le_refl _)]; simp
  have hmem := List.mem_of_getElem? hx
  have h3 := ht.1 _ (List.mem_map_of_mem (f := tg) hmem)
  unfold okT at h3
  have hnn : 0 ≤ sumT (suf.map tg) := by
   have : ∀ l : List (Int × Int), (∀ p ∈ l, 1 ≤ p.2) → 0 ≤ sumT l := fun l => by
    induction l with
    | nil => intro _; simp [sumT]
    | cons q l ih => intro h; rw [sumT_cons]; have := h q List.mem_cons_self; have := ih (fun p hp => h p (by simp [hp])); omega
   refine this _ fun p hp => ?_
   obtain ⟨y, hy, rfl⟩ := List.mem_map.1 hp
   have := ht.1 _ (List.mem_map_of_mem (f := tg) (show y ∈ Cs by rw [hC]; simp [hy]))
   unfold okT at this; omega
  have h4 := byte_chain ht hok suf (pre ++ [x]) (a + (tg x).2.toNat) (by rw [hC]; simp) (by rw [Int.natCast_add, Int.toNat_of_nonneg (by omega)]; exact h2)
  have h5 : (tg x).1 = (a : Int) := h1
  rw [List.map_cons, sumT_cons, show ((tg x).2 + sumT (suf.map tg)).toNat = (tg x).2.toNat + (sumT (suf.map tg)).toNat by omega, ← List.range'_append_1, List.map_append, h4]
  rw [List.map_cons, List.map_cons, List.flatten_cons]
  congr 1
  rw [seg_at (hok x hmem).1 (hok x hmem).2, map_range'_add]
  refine List.map_congr_left fun j hj => ?_
  have hj' := List.mem_range.1 hj
  have h6 : x.t = (a : Int) := h5
  rw [byteI_of ht hx (p := ((a + j : Nat) : Int)) (by unfold hasB; omega), h6]
  rw [Int.natCast_add]
theorem leads_valid {old new : List Int} {l : List PC} (h : leads old new new.length l) {Cs : List CV} (hv : Cs.map valC = l) (hm : ∀ x ∈ Cs, x.m = x.B.length) (ho : old.length ≤ 4611686018427387903) (hn : new.length ≤ 4611686018427387903) : faultI old.length new.length Cs = (0, 0) ∧ newB old Cs new.length = new := by
 subst hv
 obtain ⟨h1, h2, h3, h4⟩ := h
 have hok : ∀ x ∈ Cs, okPC old (valC x) ∧ x.m = x.B.length := fun x hx => ⟨h1 _ (List.mem_map_of_mem hx), hm x hx⟩
 rw [tgs_val hm] at h2 h3
 have hl1 : ∀ p ∈ Cs.map tg, 1 ≤ p.2 := fun p hp => by
  obtain ⟨x, hx, rfl⟩ := List.mem_map.1 hp
  have := hok x hx
  unfold okPC valC at this
  unfold tg lenV; dsimp only at this ⊢
  obtain ⟨h | h, h6⟩ := this
  ·rw [if_pos h.1]; omega
  ·rw [if_neg (by omega)]
   have : x.B.length ≠ 0 := fun h0 => h.2.2.2 (List.length_eq_zero_iff.1 h0)
   omega
 obtain ⟨h5, h6, _⟩ := tidy_of_chain (N := new.length) hl1 h2 (by omega)
 refine ⟨valid_of (by unfold okLen; omega) (fun i x hx => ?_) h5 h6, ?_⟩
 ·have hmem := List.mem_of_getElem? hx
  have h7 := h5.1 _ (List.mem_map_of_mem (f := tg) hmem)
  have h8 := hok x hmem
  unfold okT tg lenV at h7
  unfold okPC valC at h8
  dsimp only at h7 h8
  unfold singleV
  obtain ⟨h8 | h8, h9⟩ := h8
  ·rw [if_pos h8.1] at h7
   have hm0 : x.m = 0 := by rw [h9, h8.2.2.2.2]; rfl
   have hc : codeV x.k x.t x.f x.l x.m = 0 := by rw [h8.1]; exact codeV1.2 (by refine ⟨?_, ?_, ?_, ?_⟩ <;> first | omega | (unfold vld; omega))
   rw [if_pos hc, if_neg (by omega), if_neg (by unfold lenV; rw [if_pos h8.1]; omega)]
  ·have hk : ¬ x.k = 1 := by omega
   rw [if_neg hk] at h7
   have hc : codeV x.k x.t x.f x.l x.m = 0 := by rw [h8.1]; exact codeV2.2 (by refine ⟨?_, ?_, ?_, ?_⟩ <;> first | omega | (unfold vld; omega))
   rw [if_pos hc, if_neg (by omega), if_neg (by unfold lenV; rw [if_neg hk]; omega)]
 ·have h7 := byte_chain h5 hok Cs [] 0 rfl (by simpa using h2)
  rw [h4, h3, Int.toNat_natCast] at h7
  rw [List.take_length] at h7
  unfold newB
  rw [Int.toNat_natCast, List.range_eq_range', h7]
theorem cmdsL_valid {old new : List Int} {k : Int} {Cs : List CV} (hv : Cs.map valC = cmdsL old new k) (hm : ∀ x ∈ Cs, x.m = x.B.length) (ho : old.length ≤ 4611686018427387903) (hn : new.length ≤ 4611686018427387903) : faultI old.length new.length Cs = (0, 0) ∧ newB old Cs new.length = new := leads_valid (cmdsL_leads old new k) hv hm ho hn
/-
 Fields: numbers with sizes; what they are written as.
-/
structure FV where
 x : Int
 n : Int
theorem calls_yes {Pr : Program} {f : FuncId} {args : Array Value} {w : World} {p : Prop} [Decidable p] (hp : p) (h : Calls Pr f args w fun e w' => e = .returned (.bool (decide p)) ∧ St w [] w') : Calls Pr f args w fun e w' => e = .returned (.bool true) ∧ St w [] w' := by
 rw [decide_eq_true hp] at h; exact h
def fitV (x n : Int) : Prop := 1 ≤ n ∧ n ≤ 8 ∧ (n = 8 ∨ shrI .u64 x (8 * n) = 0)
instance (x n : Int) : Decidable (fitV x n) := by unfold fitV; infer_instance
def fitAll (Fs : List FV) : Prop := ∀ f ∈ Fs, fitV f.x f.n
def fitAllB (Fs : List FV) : Bool := Fs.all fun f => decide (fitV f.x f.n)
theorem fitAllB_iff (Fs : List FV) : fitAllB Fs = true ↔ fitAll Fs := by
 unfold fitAllB fitAll; rw [List.all_eq_true]; simp
instance (Fs : List FV) : Decidable (fitAll Fs) := decidable_of_iff _ (fitAllB_iff Fs)
/-
 A number that is written and read back.
-/
def SrcX (w : World) (X : List Nat) (A : Option Addr) (m : Nat) (kd : IntKind) (B : List Int) : Prop := B.length = m ∧ (m = 0 ∨ ∃ b off, A = some ⟨b, off, none⟩ ∧ b < w.heap.size ∧ (∀ x ∈ X, b ≠ x) ∧ RowI w b off m kd B)
section
variable {w0 w : World} {g m : Nat} {A : Option Addr} {kd : IntKind} {B : List Int} {H : List Ent} {X Y : List Nat}
theorem SrcX.src (h : SrcX w X A m kd B) : Src w A m kd B := by
 obtain ⟨h1, h2⟩ := h
 refine ⟨h1, ?_⟩
 rcases h2 with h2 | ⟨b, off, hA, hb, hne, hr⟩
 ·exact .inl h2
 ·exact .inr ⟨b, off, hA, hb, hr⟩
theorem SrcX.drop {c l : Nat} (h : SrcX w X A m kd B) (hl : l ≤ m) (hc : m ≤ c) : SrcX w X (cutA A c l 1) (m - l) kd (B.drop l) := by
 obtain ⟨h1, h2⟩ := h
 refine ⟨by simp [h1], ?_⟩
 rcases h2 with h2 | ⟨b, off, hA, hb, hne, hr⟩
 ·exact .inl (by omega)
 ·by_cases hlm : l = m
  ·exact .inl (by omega)
  ·subst hA
   refine .inr ⟨b, off + l, by rw [cut_is (o' := off + l) (by omega) (by omega)], hb, hne, fun j hj => ?_⟩
   have := hr (l + j) (by omega)
   rw [← Nat.add_assoc] at this
   rw [this]
   simp [List.getD_eq_getElem?_getD, List.getElem?_drop]
theorem Src.toX (h : Src w A m kd B) (hne : ∀ b off, A = some ⟨b, off, none⟩ → ∀ x ∈ X, b ≠ x) : SrcX w X A m kd B := by
 obtain ⟨h1, h2⟩ := h
 refine ⟨h1, ?_⟩
 rcases h2 with h2 | ⟨b, off, hA, hb, hr⟩
 ·exact .inl h2
 ·exact .inr ⟨b, off, hA, hb, hne b off hA, hr⟩
theorem Src.toX0 (h : Src w A m kd B) : SrcX w [] A m kd B := h.toX (fun _ _ _ x hx => by cases hx)
theorem TP.call0 {P : Program} {ops : Array Oper} {Q : Exit → Act → World → Prop} {n : Sz} {L : List (Nat × Value)} {HB : List Ent} {ks : List Nat} {o : Oper} {rest : List Oper} {f : FuncId} {xs : List Operand} {ts : Array TypeId} {vs : List Value} {v : Value} (hg : Wants n ops L o) (hi : inside n o.dst = true) (h : Enters P f)
  (ho : o.op = .call { callee := .value (.func f), args := xs.toArray, argTypes := ts }) (hx : evs L xs = some vs)
  (hc : ∀ w, St w0 (HB ++ H) w → Calls P f vs.toArray w fun e w' => e = .returned v ∧ St w [] w')
  (hr : TP P ops Q n w0 HB ks rest (put L o.dst v) H) : TP P ops Q n w0 HB (3 :: ks) (o :: rest) L H :=
 TP.call (ι := Unit) (V := fun _ => v) (R := fun _ => True) (H' := fun _ => H) hg hi h ho hx (fun w hs => (hc w hs).mono fun e w' ⟨he, hw⟩ => ⟨(), he, trivial, hs.call' hw⟩) fun _ _ => hr
end
end Go.Proofs.YtegddcklbmonfaaGreatDoor
