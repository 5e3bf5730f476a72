/-
  slices.SortFunc at targets, over blocks that are known.
-/
import Derived.Shelf.SlSortCmp.WholeK
import Derived.Shelf.SlicesG.Cmp
import Derived.Ground.SlsfProg
import Derived.Ground.SlgcProg
import Derived.Test.YtkgamkjdkapchaaDcA
namespace Go.Proofs
open Go.Shelf Go.RowKit Go.Lib Go.Sort
def Try.sortT_ren : Go.Shelf.Ren := ⟨fun | 6 => 55 | 15 => 66 | 14 => 65 | 28 => 77 | 29 => 78 | 20 => 69 | 21 => 70 | 22 => 71 | 23 => 72 | 24 => 73 | 25 => 74 | 26 => 75 | 27 => 76 | 46 => 79 | 47 => 80 | 48 => 81 | 49 => 82 | 50 => 83 | 57 => 84 | n => n, fun | 22 => 56 | 24 => 59 | 25 => 85 | 3 => 3 | 39 => 90 | 0 => 0 | 53 => 103 | 55 => 105 | 4 => 4 | 46 => 96 | 45 => 95 | 50 => 100 | 5 => 5 | 9 => 9 | 66 => 106 | 70 => 110 | 76 => 112 | 77 => 28 | n => n, fun | n => n⟩
theorem Try.sortT : Go.Proofs.SlLaysF0.n6 Try.prog Try.sortT_ren := {
  mixed := by kernel_rfl
  f6 := ⟨Try.f55.name, by decide, Try.func55.trans (congrArg some (by kernel_rfl))⟩
  f14 := ⟨Try.f65.name, by decide, Try.func65.trans (congrArg some (by kernel_rfl))⟩
  f15 := Try.func66.trans (congrArg some (by kernel_rfl))
  f20 := ⟨Try.f69.name, by decide, Try.func69.trans (congrArg some (by kernel_rfl))⟩
  f21 := ⟨Try.f70.name, by decide, Try.func70.trans (congrArg some (by kernel_rfl))⟩
  f22 := ⟨Try.f71.name, by decide, Try.func71.trans (congrArg some (by kernel_rfl))⟩
  f23 := ⟨Try.f72.name, by decide, Try.func72.trans (congrArg some (by kernel_rfl))⟩
  f24 := ⟨Try.f73.name, by decide, Try.func73.trans (congrArg some (by kernel_rfl))⟩
  f25 := ⟨Try.f74.name, by decide, Try.func74.trans (congrArg some (by kernel_rfl))⟩
  f26 := ⟨Try.f75.name, by decide, Try.func75.trans (congrArg some (by kernel_rfl))⟩
  f27 := ⟨Try.f76.name, by decide, Try.func76.trans (congrArg some (by kernel_rfl))⟩
  f28 := Try.func77.trans (congrArg some (by kernel_rfl))
  f29 := Try.func78.trans (congrArg some (by kernel_rfl))
  f46 := ⟨Try.f79.name, by decide, Try.func79.trans (congrArg some (by kernel_rfl))⟩
  f47 := Try.func80.trans (congrArg some (by kernel_rfl))
  f48 := Try.func81.trans (congrArg some (by kernel_rfl))
  f49 := ⟨Try.f82.name, by decide, Try.func82.trans (congrArg some (by kernel_rfl))⟩
  f50 := ⟨Try.f83.name, by decide, Try.func83.trans (congrArg some (by kernel_rfl))⟩
  f57 := ⟨Try.f84.name, by decide, Try.func84.trans (congrArg some (by kernel_rfl))⟩
  t0 := Try.underlying0
  a0 := Try.isAgg0
  z0 := Try.sizeOf0
  v0 := Try.zeroValue0
  t3 := Try.underlying3
  a3 := Try.isAgg3
  z3 := Try.sizeOf3
  v3 := Try.zeroValue3
  t4 := Try.underlying4
  a4 := Try.isAgg4
  z4 := Try.sizeOf4
  v4 := Try.zeroValue4
  t5 := Try.underlying5
  a5 := Try.isAgg5
  z5 := Try.sizeOf5
  v5 := Try.zeroValue5
  t9 := Try.underlying9
  a9 := Try.isAgg9
  z9 := Try.sizeOf9
  v9 := Try.zeroValue9
  t22 := Try.underlying56
  a22 := Try.isAgg56
  z22 := Try.sizeOf56
  v22 := Try.zeroValue56
  t25 := Try.underlying85
  a25 := Try.isAgg85
  z25 := Try.sizeOf85
  v25 := Try.zeroValue85
  t39 := Try.underlying90
  a39 := Try.isAgg90
  z39 := Try.sizeOf90
  v39 := Try.zeroValue90
  t45 := Try.underlying95
  a45 := Try.isAgg95
  z45 := Try.sizeOf95
  v45 := Try.zeroValue95
  t46 := Try.underlying96
  a46 := Try.isAgg96
  z46 := Try.sizeOf96
  v46 := Try.zeroValue96
  t50 := Try.underlying100
  a50 := Try.isAgg100
  z50 := Try.sizeOf100
  v50 := Try.zeroValue100
  t53 := Try.underlying103
  a53 := Try.isAgg103
  z53 := Try.sizeOf103
  v53 := Try.zeroValue103
  t55 := Try.underlying105
  a55 := Try.isAgg105
  z55 := Try.sizeOf105
  v55 := Try.zeroValue105
  t66 := Try.underlying106
  a66 := Try.isAgg106
  z66 := Try.sizeOf106
  v66 := Try.zeroValue106
  t70 := Try.underlying110
  a70 := Try.isAgg110
  z70 := Try.sizeOf110
  v70 := Try.zeroValue110
  t76 := Try.underlying112
  a76 := Try.isAgg112
  z76 := Try.sizeOf112
  v76 := Try.zeroValue112
  t77 := Try.underlying28
  a77 := Try.isAgg28
  z77 := Try.sizeOf28
  v77 := Try.zeroValue28 }
def Try.cmpI_ren : Go.Shelf.Ren := ⟨fun | 5 => 57 | 7 => 67 | n => n, fun | 22 => 3 | 3 => 3 | 4 => 4 | n => n, fun | n => n⟩
theorem Try.cmpI : Go.Proofs.SlLaysC2.n5 Try.prog Try.cmpI_ren := {
  mixed := by kernel_rfl
  f5 := ⟨Try.f57.name, by decide, Try.func57.trans (congrArg some (by kernel_rfl))⟩
  f7 := ⟨Try.f67.name, by decide, Try.func67.trans (congrArg some (by kernel_rfl))⟩
  t3 := Try.underlying3
  a3 := Try.isAgg3
  z3 := Try.sizeOf3
  v3 := Try.zeroValue3
  t4 := Try.underlying4
  a4 := Try.isAgg4
  z4 := Try.sizeOf4
  v4 := Try.zeroValue4
  t22 := Try.underlying3
  a22 := Try.isAgg3
  z22 := Try.sizeOf3
  v22 := Try.zeroValue3 }
end Go.Proofs
namespace Go.Proofs.Ytkgamkjdkapchaa
set_option linter.unusedVariables false
set_option linter.unusedSimpArgs false
set_option linter.unusedVariables false
open Go Go.RowKit Go.Shelf Go.Lib Go.Sort
theorem flatK_flatT (Ts : List TV) : (flatK cellsT 3 Ts.toArray).toList = flatT Ts := by
  apply List.ext_getElem?
  intro t
  by_cases ht : t < Ts.length * 3
  · have hi : t / 3 < Ts.length := by omega
    have hr : t % 3 < 3 := Nat.mod_lt _ (by omega)
    have h1 : (flatK cellsT 3 Ts.toArray).toList[t]? = some ((cellsT Ts.toArray[t / 3]!)[t % 3]!) := by
      have := get_flatK cellsT 3 Ts.toArray t (by simpa using ht)
      rw [Array.getElem?_toList, ← this]
      rw [Array.getElem?_eq_getElem (by simpa using ht), getElem!_pos _ _ (by simpa using ht)]
    have h2 : Ts.toArray[t / 3]! = Ts[t / 3] := by
      rw [getElem!_pos _ _ (by simpa using hi)]; simp
    rw [h1, h2]
    have hx : Ts[t / 3]? = some Ts[t / 3] := List.getElem?_eq_getElem hi
    have hu : (cellsT Ts[t / 3])[t % 3]? = some ((cellsT Ts[t / 3])[t % 3]'(by rw [cellsT_len]; exact hr)) := List.getElem?_eq_getElem _
    have h3 := flatT_get hx hu
    rw [show 3 * (t / 3) + t % 3 = t by omega] at h3
    rw [h3, getElem!_pos _ _ (by rw [cellsT_len]; exact hr)]
  · rw [List.getElem?_eq_none (by simp; omega), List.getElem?_eq_none (by rw [flatT_len]; omega)]
theorem holds_entT {w : World} {g t tot : Nat} {Ts : List TV} (h : Ent.lies ⟨g, t, flatT Ts, tot⟩ w) : HoldsK cellsT 3 w g 0 Ts.toArray := fun j hj => by
  obtain ⟨cur, h1, h2, h3⟩ := h
  have hj' : j < (flatK cellsT 3 Ts.toArray).size := hj
  have hfl : (flatT Ts)[j]? = some (flatK cellsT 3 Ts.toArray)[j]! := by
    rw [← flatK_flatT, Array.getElem?_toList, Array.getElem?_eq_getElem hj', getElem!_pos (flatK cellsT 3 Ts.toArray) j hj']
  refine ⟨?_, ?_⟩
  · have := h3 j _ hfl
    simp only [id]
    rw [Nat.zero_add]
    simp [World.cell?, h1, this]
  · simp only [World.frozen?, h1]
    simp
/-- The block, sorted: what is known then. -/
theorem st_sortedT {w0 w : World} {g t tot n : Nat} {Ts Es : List TV} {H : List Ent} {os : Array Obj} (hs : St w0 (⟨g, t, flatT Ts, tot⟩ :: H) w) (hl : Es.length = Ts.length) : St w0 (⟨g, t, flatT Es, tot⟩ :: H) (sortWorldK cellsT 3 w g 0 n Es.toArray os) := by
  obtain ⟨cur, h1, h2, h3⟩ := hs.has _ List.mem_cons_self
  have hg : g < w.heap.size := (Array.getElem?_eq_some_iff.1 h1).1
  let W := sortWorldK cellsT 3 w g 0 n Es.toArray os
  have hheap : W.heap = (w.heap.modify g (onCells (putCells id 0 (flatK cellsT 3 Es.toArray)))) ++ os := rfl
  have hother : ∀ b, b < w.heap.size → b ≠ g → W.heap[b]? = w.heap[b]? := fun b hb hne => by
    rw [hheap, Array.getElem?_append_left (by simpa using hb), Array.getElem?_modify, if_neg (fun h => hne h.symm)]
  have hhere : W.heap[g]? = some (.cells (putCells id 0 (flatK cellsT 3 Es.toArray) cur) t (0, 0)) := by
    rw [hheap, Array.getElem?_append_left (by simpa using hg), Array.getElem?_modify, if_pos rfl, h1]; rfl
  have hap := hs.apart
  refine ⟨hs.os, hs.tape, hs.output, Nat.le_trans hs.size (by show w.heap.size ≤ W.heap.size; rw [hheap]; simp), ?_, ?_, ?_⟩
  · intro e he
    rcases List.mem_cons.1 he with rfl | he
    · refine ⟨_, hhere, by simpa [putCells] using h2, fun j u hu => ?_⟩
      have hj := (List.getElem?_eq_some_iff.1 hu).1
      have hjs : j < (flatK cellsT 3 Es.toArray).size := by rw [size_flatK]; rw [flatT_len] at hj; simpa using hj
      have hjc : j < cur.size := by
        have hjC : j < (flatT Ts).length := by rw [flatT_len, ← hl, ← flatT_len]; exact hj
        have := h3 j _ (List.getElem?_eq_getElem hjC)
        exact (Array.getElem?_eq_some_iff.1 this).1
      rw [← flatK_flatT, Array.getElem?_toList, Array.getElem?_eq_getElem hjs] at hu
      cases hu
      simp only [putCells]
      rw [Array.getElem?_eq_getElem (by simpa using hjc)]
      simp only [Array.getElem_mapIdx]
      rw [if_pos ⟨Nat.zero_le _, by rw [Nat.zero_add]; exact hjs⟩, Nat.sub_zero, getElem!_pos (flatK cellsT 3 Es.toArray) j hjs]; rfl
    · have hne : e.g ≠ g := fun h => (List.pairwise_cons.1 hap).1 e he h.symm
      exact (hs.has e (List.mem_cons_of_mem _ he)).of_block (hother _ (hs.has e (List.mem_cons_of_mem _ he)).lt hne)
  · intro b hb hne
    have hbg : b ≠ g := fun h => hne _ List.mem_cons_self h.symm
    rw [hother b (Nat.lt_of_lt_of_le hb hs.size) hbg]
    exact hs.old b hb (fun e he => by
      rcases List.mem_cons.1 he with rfl | he
      · exact fun h => hbg h.symm
      · exact hne e (List.mem_cons_of_mem _ he))
  · exact .cons (fun e he => (List.pairwise_cons.1 hap).1 e he) (List.pairwise_cons.1 hap).2
theorem ltOf_o (x y : TV) : ltOf (fun x y : TV => Lib.compareInt x.o y.o) x y = decide (x.o < y.o) := by
  unfold ltOf Lib.compareInt
  by_cases h1 : x.o < y.o
  · simp [h1]
  · by_cases h2 : y.o < x.o <;> simp [h1, h2]
theorem sorted_listT {Es : List TV} (h : SortedIn (ltOf fun x y : TV => Lib.compareInt x.o y.o) 0 Es.length Es.toArray) : Es.Pairwise leT := by
  rw [List.pairwise_iff_getElem]
  intro i j hi hj hij
  have h1 := h i j (Nat.zero_le _) hij hj
  rw [getElem!_pos Es.toArray j (by simpa using hj), getElem!_pos Es.toArray i (by simpa using hi)] at h1
  simp only [List.getElem_toArray] at h1
  rw [ltOf_o] at h1
  unfold leT
  have h2 := of_decide_eq_false h1
  omega
theorem swoO : SWO (ltOf fun x y : TV => Lib.compareInt x.o y.o) := by
  have e := ltOf_o
  exact ⟨fun x => by rw [e]; simp, fun x y z h1 h2 => by rw [e] at *; simp at *; omega, fun x y z h1 h2 => by rw [e] at *; simp at *; omega⟩
theorem perm_ofT {Ts : List TV} {d : Array TV} (h : PermIn 0 Ts.toArray.size Ts.toArray d) : d.toList.Perm Ts := by
  obtain ⟨h1, _, h3⟩ := h
  have e1 : d.extract 0 Ts.toArray.size = d := by rw [← h1]; simp
  have e2 : Ts.toArray.extract 0 Ts.toArray.size = Ts.toArray := by simp
  rw [e1, e2] at h3
  simpa using h3
/-- slices.SortFunc, the closure's own contract given. -/
theorem sortT_c {w0 w : World} {g t tot cap fc : Nat} {Ts : List TV} {H : List Ent} (hs : St w0 (⟨g, t, flatT Ts, tot⟩ :: H) w) (hlen : Ts.length < 4611686018427387904)
    (eg : ∀ args w, (callFunc fc args).run Try.prog w = .ok (.enter fc args) w) (hc : ∀ (x y : TV) (W : World), Calls Try.prog fc #[.agg (cellsT x).toArray, .agg (cellsT y).toArray] W fun e w' => e = .returned (.int .i64 (Lib.compareInt x.o y.o)) ∧ ∃ q os', w' = grow (W.drewN q) os') :
    Calls Try.prog 55 #[.slice (some ⟨g, 0, none⟩) Ts.length cap, .func (.func fc) #[] #[]] w fun e w' => e = .returned (.tuple #[]) ∧ ∃ Es : List TV, Es.Perm Ts ∧ Es.Pairwise leT ∧ St w0 (⟨g, t, flatT Es, tot⟩ :: H) w' := by
  have hlt := (hs.has _ List.mem_cons_self).lt
  have hcon := AnyQ.slices_SortFunc Try.sortT 3 (fun w => congrFun agg59 w) (run_size size59) cellsT (fun _ => rfl) (fun x v hv => flatT_one' [x] v (by rw [flatT_one]; exact hv)) (fun x y : TV => Lib.compareInt x.o y.o) swoO fc #[] g 0 cap Ts.toArray w eg (fun _ _ _ _ x y => hc x y _) (holds_entT (hs.has _ List.mem_cons_self)) hlt (by simpa using hlen)
  refine hcon.mono ?_
  rintro e w' ⟨rfl, d, n, os, hp, hq, rfl⟩
  have hsz : d.size = Ts.length := by have := hp.1; simpa using this
  have hperm := perm_ofT hp
  refine ⟨rfl, d.toList, hperm, sorted_listT (by simpa [hsz] using hq), ?_⟩
  have := st_sortedT (n := n) (os := os) (Es := d.toList) hs (by simpa using hsz)
  simpa using this
end Go.Proofs.Ytkgamkjdkapchaa
