/-
  slices.SortFunc at targets, over blocks that are known.
-/
import Derived.Shelf.SlSortCmp.WholeK
import Derived.Shelf.SlicesG.Cmp
import Derived.Shelf.Lay
import Derived.Ground.SlsfProg
import Derived.Ground.SlgcProg
import Derived.Test.YtkgamkjdkapchaaDcA
namespace Go.Proofs
open Go.Shelf Go.RowKit Go.Lib Go.Sort
shelf_lay_g SlLaysF0.n6 Slsf 6 at Try 55 as Try.sortT
shelf_lay_g SlLaysC2.n5 Slgc 5 at Try 57 as Try.cmpI
end Go.Proofs
namespace Go.Proofs.Ytkgamkjdkapchaa
set_option linter.unusedVariables false
set_option linter.unusedSimpArgs false
set_option linter.unusedVariables false
open Go Go.RowKit Go.Shelf Go.Lib Go.Sort
theorem flatK_flatT (Ts : List TV) : (flatK cellsT 3 Ts.toArray).toList = flatT Ts := by
  apply List.ext_getElem?
  intro t
  by_cases ht : t < Ts.length * 3
  · have hi : t / 3 < Ts.length := by omega
    have hr : t % 3 < 3 := Nat.mod_lt _ (by omega)
    have h1 : (flatK cellsT 3 Ts.toArray).toList[t]? = some ((cellsT Ts.toArray[t / 3]!)[t % 3]!) := by
      have := get_flatK cellsT 3 Ts.toArray t (by simpa using ht)
      rw [Array.getElem?_toList, ← this]
      rw [Array.getElem?_eq_getElem (by simpa using ht), getElem!_pos _ _ (by simpa using ht)]
    have h2 : Ts.toArray[t / 3]! = Ts[t / 3] := by
      rw [getElem!_pos _ _ (by simpa using hi)]; simp
    rw [h1, h2]
    have hx : Ts[t / 3]? = some Ts[t / 3] := List.getElem?_eq_getElem hi
    have hu : (cellsT Ts[t / 3])[t % 3]? = some ((cellsT Ts[t / 3])[t % 3]'(by rw [cellsT_len]; exact hr)) := List.getElem?_eq_getElem _
    have h3 := flatT_get hx hu
    rw [show 3 * (t / 3) + t % 3 = t by omega] at h3
    rw [h3, getElem!_pos _ _ (by rw [cellsT_len]; exact hr)]
  · rw [List.getElem?_eq_none (by simp; omega), List.getElem?_eq_none (by rw [flatT_len]; omega)]
theorem holds_entT {w : World} {g t tot : Nat} {Ts : List TV} (h : Ent.lies ⟨g, t, flatT Ts, tot⟩ w) : HoldsK cellsT 3 w g 0 Ts.toArray := fun j hj => by
  obtain ⟨cur, h1, h2, h3⟩ := h
  have hj' : j < (flatK cellsT 3 Ts.toArray).size := hj
  have hfl : (flatT Ts)[j]? = some (flatK cellsT 3 Ts.toArray)[j]! := by
    rw [← flatK_flatT, Array.getElem?_toList, Array.getElem?_eq_getElem hj', getElem!_pos (flatK cellsT 3 Ts.toArray) j hj']
  refine ⟨?_, ?_⟩
  · have := h3 j _ hfl
    simp only [id]
    rw [Nat.zero_add]
    simp [World.cell?, h1, this]
  · simp only [World.frozen?, h1]
    simp
/-- The block, sorted: what is known then. -/
theorem st_sortedT {w0 w : World} {g t tot n : Nat} {Ts Es : List TV} {H : List Ent} {os : Array Obj} (hs : St w0 (⟨g, t, flatT Ts, tot⟩ :: H) w) (hl : Es.length = Ts.length) : St w0 (⟨g, t, flatT Es, tot⟩ :: H) (sortWorldK cellsT 3 w g 0 n Es.toArray os) := by
  obtain ⟨cur, h1, h2, h3⟩ := hs.has _ List.mem_cons_self
  have hg : g < w.heap.size := (Array.getElem?_eq_some_iff.1 h1).1
  let W := sortWorldK cellsT 3 w g 0 n Es.toArray os
  have hheap : W.heap = (w.heap.modify g (onCells (putCells id 0 (flatK cellsT 3 Es.toArray)))) ++ os := rfl
  have hother : ∀ b, b < w.heap.size → b ≠ g → W.heap[b]? = w.heap[b]? := fun b hb hne => by
    rw [hheap, Array.getElem?_append_left (by simpa using hb), Array.getElem?_modify, if_neg (fun h => hne h.symm)]
  have hhere : W.heap[g]? = some (.cells (putCells id 0 (flatK cellsT 3 Es.toArray) cur) t (0, 0)) := by
    rw [hheap, Array.getElem?_append_left (by simpa using hg), Array.getElem?_modify, if_pos rfl, h1]; rfl
  have hap := hs.apart
  refine ⟨hs.os, hs.tape, hs.output, Nat.le_trans hs.size (by show w.heap.size ≤ W.heap.size; rw [hheap]; simp), ?_, ?_, ?_⟩
  · intro e he
    rcases List.mem_cons.1 he with rfl | he
    · refine ⟨_, hhere, by simpa [putCells] using h2, fun j u hu => ?_⟩
      have hj := (List.getElem?_eq_some_iff.1 hu).1
      have hjs : j < (flatK cellsT 3 Es.toArray).size := by rw [size_flatK]; rw [flatT_len] at hj; simpa using hj
      have hjc : j < cur.size := by
        have hjC : j < (flatT Ts).length := by rw [flatT_len, ← hl, ← flatT_len]; exact hj
        have := h3 j _ (List.getElem?_eq_getElem hjC)
        exact (Array.getElem?_eq_some_iff.1 this).1
      rw [← flatK_flatT, Array.getElem?_toList, Array.getElem?_eq_getElem hjs] at hu
      cases hu
      simp only [putCells]
      rw [Array.getElem?_eq_getElem (by simpa using hjc)]
      simp only [Array.getElem_mapIdx]
      rw [if_pos ⟨Nat.zero_le _, by rw [Nat.zero_add]; exact hjs⟩, Nat.sub_zero, getElem!_pos (flatK cellsT 3 Es.toArray) j hjs]; rfl
    · have hne : e.g ≠ g := fun h => (List.pairwise_cons.1 hap).1 e he h.symm
      exact (hs.has e (List.mem_cons_of_mem _ he)).of_block (hother _ (hs.has e (List.mem_cons_of_mem _ he)).lt hne)
  · intro b hb hne
    have hbg : b ≠ g := fun h => hne _ List.mem_cons_self h.symm
    rw [hother b (Nat.lt_of_lt_of_le hb hs.size) hbg]
    exact hs.old b hb (fun e he => by
      rcases List.mem_cons.1 he with rfl | he
      · exact fun h => hbg h.symm
      · exact hne e (List.mem_cons_of_mem _ he))
  · exact .cons (fun e he => (List.pairwise_cons.1 hap).1 e he) (List.pairwise_cons.1 hap).2
theorem ltOf_o (x y : TV) : ltOf (fun x y : TV => Lib.compareInt x.o y.o) x y = decide (x.o < y.o) := by
  unfold ltOf Lib.compareInt
  by_cases h1 : x.o < y.o
  · simp [h1]
  · by_cases h2 : y.o < x.o <;> simp [h1, h2]
theorem sorted_listT {Es : List TV} (h : SortedIn (ltOf fun x y : TV => Lib.compareInt x.o y.o) 0 Es.length Es.toArray) : Es.Pairwise leT := by
  rw [List.pairwise_iff_getElem]
  intro i j hi hj hij
  have h1 := h i j (Nat.zero_le _) hij hj
  rw [getElem!_pos Es.toArray j (by simpa using hj), getElem!_pos Es.toArray i (by simpa using hi)] at h1
  simp only [List.getElem_toArray] at h1
  rw [ltOf_o] at h1
  unfold leT
  have h2 := of_decide_eq_false h1
  omega
theorem swoO : SWO (ltOf fun x y : TV => Lib.compareInt x.o y.o) := by
  have e := ltOf_o
  exact ⟨fun x => by rw [e]; simp, fun x y z h1 h2 => by rw [e] at *; simp at *; omega, fun x y z h1 h2 => by rw [e] at *; simp at *; omega⟩
theorem perm_ofT {Ts : List TV} {d : Array TV} (h : PermIn 0 Ts.toArray.size Ts.toArray d) : d.toList.Perm Ts := by
  obtain ⟨h1, _, h3⟩ := h
  have e1 : d.extract 0 Ts.toArray.size = d := by rw [← h1]; simp
  have e2 : Ts.toArray.extract 0 Ts.toArray.size = Ts.toArray := by simp
  rw [e1, e2] at h3
  simpa using h3
/-- slices.SortFunc, the closure's own contract given. -/
theorem sortT_c {w0 w : World} {g t tot cap fc : Nat} {Ts : List TV} {H : List Ent} (hs : St w0 (⟨g, t, flatT Ts, tot⟩ :: H) w) (hlen : Ts.length < 4611686018427387904)
    (eg : ∀ args w, (callFunc fc args).run Try.prog w = .ok (.enter fc args) w) (hc : ∀ (x y : TV) (W : World), Calls Try.prog fc #[.agg (cellsT x).toArray, .agg (cellsT y).toArray] W fun e w' => e = .returned (.int .i64 (Lib.compareInt x.o y.o)) ∧ ∃ q os', w' = grow (W.drewN q) os') :
    Calls Try.prog 55 #[.slice (some ⟨g, 0, none⟩) Ts.length cap, .func (.func fc) #[] #[]] w fun e w' => e = .returned (.tuple #[]) ∧ ∃ Es : List TV, Es.Perm Ts ∧ Es.Pairwise leT ∧ St w0 (⟨g, t, flatT Es, tot⟩ :: H) w' := by
  have hlt := (hs.has _ List.mem_cons_self).lt
  have hcon := AnyQ.slices_SortFunc Try.sortT 3 (fun w => congrFun agg59 w) (run_size size59) cellsT (fun _ => rfl) (fun x v hv => flatT_one' [x] v (by rw [flatT_one]; exact hv)) (fun x y : TV => Lib.compareInt x.o y.o) swoO fc #[] g 0 cap Ts.toArray w eg (fun _ _ _ _ x y => hc x y _) (holds_entT (hs.has _ List.mem_cons_self)) hlt (by simpa using hlen)
  refine hcon.mono ?_
  rintro e w' ⟨rfl, d, n, os, hp, hq, rfl⟩
  have hsz : d.size = Ts.length := by have := hp.1; simpa using this
  have hperm := perm_ofT hp
  refine ⟨rfl, d.toList, hperm, sorted_listT (by simpa [hsz] using hq), ?_⟩
  have := st_sortedT (n := n) (os := os) (Es := d.toList) hs (by simpa using hsz)
  simpa using this
end Go.Proofs.Ytkgamkjdkapchaa
