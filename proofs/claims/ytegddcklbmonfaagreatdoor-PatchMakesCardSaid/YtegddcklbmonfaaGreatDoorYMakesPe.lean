/-
 The new file, copied together command by command.
-/
import Derived.Test.YtegddcklbmonfaaGreatDoorYMakesPd
import Derived.Test.YtegddcklbmonfaaGreatDoorYMakesPb
import Derived.Test.YtegddcklbmonfaaGreatDoorYMakesPa
import Derived.MapKept
import Derived.Test.YtegddcklbmonfaaGreatDoorYMakesPc
import Derived.Lib.IndexMore
import Derived.Lib.Bytes
import Derived.Shelf.Bytes.SlIndexWhole
import Derived.Shelf.LaysM
import Derived.Test.YtegddcklbmonfaaGreatDoorProg
import Derived.HandedShaped
import Derived.Shelf.Vars
/-
 The reference of layer 8: equal, match, Fits.
-/
namespace Go.Proofs.YtegddcklbmonfaaGreatDoor
set_option maxRecDepth 100000
set_option maxHeartbeats 2000000
open Go.Value (int slice)
set_option linter.unusedVariables false
set_option linter.unusedSimpArgs false
open Go Go.RowKit
theorem enters77 : Enters Tryz.prog 77 := ⟨_, Tryz.func77, by kernel_rfl, by kernel_rfl⟩
theorem eqN_stop {a b : List Int} {n : Nat} (hE : eqN a b = n + eqN (a.drop n) (b.drop n)) (h : (a.length ≤ n ∨ b.length ≤ n) ∨ (n < a.length ∧ n < b.length ∧ ¬ a.getD n 0 = b.getD n 0)) : eqN a b = n := by
 rcases h with h | ⟨h1, h2, h3⟩
 ·rw [hE, eqN_end h]; rfl
 ·rw [hE, eqN_no h1 h2 h3]; rfl
theorem eqN_go {a b : List Int} {n : Nat} (hE : eqN a b = n + eqN (a.drop n) (b.drop n)) (ha : n < a.length) (hb : n < b.length) (h : a.getD n 0 = b.getD n 0) : eqN a b = (n + 1) + eqN (a.drop (n + 1)) (b.drop (n + 1)) := by
 rw [hE, eqN_yes ha hb h]; omega
theorem requal_c (PA PB : List Int) (A A2 : Option Addr) (m c m2 c2 : Nat) (w : World) (hsA : Src w A m .u8 PA) (hsB : Src w A2 m2 .u8 PB) (hmc : m ≤ c) (hmc2 : m2 ≤ c2) (hcm : c ≤ 9223372036854775807) (hcm2 : c2 ≤ 9223372036854775807) : Calls Tryz.prog 77 #[.slice A m c, .slice A2 m2 c2] w fun e w' => e = .returned (.int .i64 ((eqN PA PB) : Int)) ∧ St w [] w' := by
 refine qP (args := [.slice A m c, .slice A2 m2 c2]) Tryz.func77 rfl Tryz.ntmps77 (by simp) ?_
 refine qC [0, 1] ?_
 iterate 12 refine gx ?_
 refine qe (ι := Nat) (fun k => [(0, .slice A m c), (1, .slice A2 m2 c2), (5, .int .i64 (k : Int))]) (fun k => []) (fun k => m - k) (fun k => k ≤ m ∧ eqN PA PB = k + eqN (PA.drop (k)) (PB.drop (k))) 0 ⟨Nat.zero_le _, by simp⟩ (qL (i := 0) rfl rfl (by first | omega | (dsimp only; omega) | rfl) (by first | omega | (dsimp only; omega) | rfl) (qL (i := 1) rfl rfl (by first | omega | (dsimp only; omega) | rfl) (by first | omega | (dsimp only; omega) | rfl) (qE (i := 5) rfl (by first | omega | rfl) (qK)))) (fun w h => h) (fun k hC0 => ?_)
 obtain ⟨hC0, hE⟩ := hC0
 iterate 2 refine gx ?_
 refine qs (by kernel_rfl) [0, 0, 0, 0, 0, 0, 0, 0, 0, 0, 0, 0, 0, 0, 1, 0, 0, 0, 1, 0, 0] rfl (by kernel_rfl) ?_
 iterate 3 refine gx ?_
 by_cases c1 : (k : Int) < (m : Int)
 ·refine qG (qA rfl) rfl (fun _ => qi (Gets.lss rfl rfl rfl) c1) ?_
  iterate 4 refine gx ?_
  by_cases c2 : (k : Int) < (m2 : Int)
  ·obtain ⟨b, off, hAe, hb, hr⟩ := hsA.2.resolve_left (by omega)
   obtain ⟨b2, off2, hAe2, hb2, hr2⟩ := hsB.2.resolve_left (by omega)
   subst hAe; subst hAe2
   refine qG (qM rfl rfl rfl) rfl (fun _ => qi (Gets.lss rfl rfl rfl) c2) ?_
   iterate 4 refine gx ?_
   refine qG (qM rfl rfl rfl) rfl (fun _ => qW rfl Tryz.underlying22 size5 rfl rfl (i := k) (by omega) (by omega) (off' := (off + k)) (by omega)) ?_
   refine qX (qM rfl rfl rfl) rfl (qJ rfl agg5 rfl (zA hr (i := k) (by omega) (by omega) hb qF)) ?_
   iterate 2 refine gx ?_
   refine qG (qM rfl rfl rfl) rfl (fun _ => qW rfl Tryz.underlying22 size5 rfl rfl (i := k) (by omega) (by omega) (off' := (off2 + k)) (by omega)) ?_
   refine qX (qM rfl rfl rfl) rfl (qJ rfl agg5 rfl (zA hr2 (i := k) (by omega) (by omega) hb2 qF)) ?_
   by_cases c3 : (PA.getD k 0) = (PB.getD k 0)
   ·refine qG (qM rfl rfl rfl) rfl (fun _ => qi (qo rfl rfl rfl) c3) ?_
    iterate 3 refine gx ?_
    refine qC [0, 1, 5, 26] ?_
    refine qq rfl ?_
    iterate 5 refine gx ?_
    refine qB (qA rfl) rfl (qU rfl rfl rfl (r := ((k : Int) + 1)) (w64 (by omega) (by omega))) ?_
    iterate 3 refine gx ?_
    exact qc (k + 1) (by omega) ⟨by omega, eqN_go hE (by have := hsA.1; omega) (by have := hsB.1; omega) c3⟩ (qL (i := 0) rfl (by first | rfl | (congr 2; omega)) (by first | omega | (dsimp only; omega) | rfl) (by first | omega | (dsimp only; omega) | rfl) (qL (i := 1) rfl (by first | rfl | (congr 2; omega)) (by first | omega | (dsimp only; omega) | rfl) (by first | omega | (dsimp only; omega) | rfl) (qE (i := 5) rfl (by first | omega | rfl) (qK)))) (fun w h => h)
   ·refine qG (qM rfl rfl rfl) rfl (fun _ => qg (qo rfl rfl rfl) c3) ?_
    iterate 3 refine gx ?_
    refine qC [0, 1, 5, 26] ?_
    refine ql rfl ?_
    iterate 12 refine gx ?_
    exact qN rfl rfl (fun w hs => ⟨ret_i (by rw [eqN_stop hE (by have l1 := hsA.1; have l2 := hsB.1; first | exact .inl (.inl (by omega)) | exact .inl (.inr (by omega)) | exact .inr ⟨by omega, by omega, c3⟩)]), hs⟩)
  ·refine qG (qM rfl rfl rfl) rfl (fun _ => qg (Gets.lss rfl rfl rfl) c2) ?_
   iterate 2 refine gx ?_
   refine TM.pass rfl rfl rfl rfl rfl ?_
   refine TM.pass rfl rfl rfl rfl rfl ?_
   refine TM.pass rfl rfl rfl rfl rfl ?_
   refine TM.pass1 rfl rfl rfl rfl rfl ?_
   refine TM.pass rfl rfl rfl rfl rfl ?_
   refine TM.pass rfl rfl rfl rfl rfl ?_
   refine TM.pass rfl rfl rfl rfl rfl ?_
   refine TM.pass1 rfl rfl rfl rfl rfl ?_
   refine TM.pass rfl rfl rfl rfl rfl ?_
   iterate 3 refine gx ?_
   refine qC [0, 1, 5, 26] ?_
   refine ql rfl ?_
   iterate 12 refine gx ?_
   exact qN rfl rfl (fun w hs => ⟨ret_i (by rw [eqN_stop hE (by have l1 := hsA.1; have l2 := hsB.1; first | exact .inl (.inl (by omega)) | exact .inl (.inr (by omega)) | exact .inr ⟨by omega, by omega, c3⟩)]), hs⟩)
 ·refine qG (qA rfl) rfl (fun _ => qg (Gets.lss rfl rfl rfl) c1) ?_
  refine gx ?_
  refine TM.pass rfl rfl rfl rfl rfl ?_
  refine TM.pass rfl rfl rfl rfl rfl ?_
  refine TM.pass rfl rfl rfl rfl rfl ?_
  refine TM.pass rfl rfl rfl rfl rfl ?_
  iterate 2 refine gx ?_
  refine TM.pass rfl rfl rfl rfl rfl ?_
  refine TM.pass rfl rfl rfl rfl rfl ?_
  refine TM.pass rfl rfl rfl rfl rfl ?_
  refine TM.pass1 rfl rfl rfl rfl rfl ?_
  refine TM.pass rfl rfl rfl rfl rfl ?_
  refine TM.pass rfl rfl rfl rfl rfl ?_
  refine TM.pass rfl rfl rfl rfl rfl ?_
  refine TM.pass1 rfl rfl rfl rfl rfl ?_
  refine TM.pass rfl rfl rfl rfl rfl ?_
  iterate 3 refine gx ?_
  refine qC [0, 1, 5, 26] ?_
  refine ql rfl ?_
  iterate 12 refine gx ?_
  exact qN rfl rfl (fun w hs => ⟨ret_i (by rw [eqN_stop hE (by have l1 := hsA.1; have l2 := hsB.1; first | exact .inl (.inl (by omega)) | exact .inl (.inr (by omega)) | exact .inr ⟨by omega, by omega, c3⟩)]), hs⟩)
def matchR (old b : List Int) (k : Int) : Int × Int := match matchI old b k with
 | some q => ((q : Int), (eqN (old.drop q) b : Int))
 | none => (-1, 0)
theorem matchR_no {old b : List Int} {k : Int} (h : matchI old b k = none) : matchR old b k = (-1, 0) := by unfold matchR; rw [h]
theorem matchR_yes {old b : List Int} {k : Int} {q : Nat} (h : matchI old b k = some q) : matchR old b k = ((q : Int), (eqN (old.drop q) b : Int)) := by unfold matchR; rw [h]
theorem all_less {p : Nat → Prop} {n : Nat} (h : ∀ j, j < n → ¬ p j) (hn : ¬ p n) : ∀ j, j < n + 1 → ¬ p j := fun j hj => by
 by_cases e : j = n
 ·subst e; exact hn
 ·exact h j (by omega)
theorem rmatch_c (PA PB : List Int) (A A2 : Option Addr) (m c m2 c2 : Nat) (w : World) (hsA : Src w A m .u8 PA) (hsB : Src w A2 m2 .u8 PB) (hmc : m ≤ c) (hmc2 : m2 ≤ c2) (hcm : c ≤ 9223372036854775807) (hcm2 : c2 ≤ 9223372036854775807) (k : Int) (hk : k ≤ 9223372036854775807) (hk0 : -9223372036854775808 ≤ k) (hm : m ≤ 1000000) (hm2 : m2 ≤ 1000000) : Calls Tryz.prog 45 #[.slice A m c, .slice A2 m2 c2, .int .i64 k] w fun e w' => e = .returned (.tuple #[.int .i64 (matchR PA PB k).1, .int .i64 (matchR PA PB k).2]) ∧ St w [] w' := by
 refine qP (args := [.slice A m c, .slice A2 m2 c2, .int .i64 k]) Tryz.func45 rfl Tryz.ntmps45 (by simp) ?_
 refine qC [0, 1, 2] ?_
 iterate 10 refine gx ?_
 by_cases cA : k < 1
 ·refine qB (qA rfl) rfl (qi (Gets.lss rfl rfl rfl) cA) ?_
  iterate 8 refine gx ?_
  refine qC [0, 1, 2, 6, 7, 17] ?_
  refine qq rfl ?_
  iterate 8 refine gx ?_
  exact TE.ret2 rfl rfl rfl (fun w hs => ⟨by rw [matchR_no (old := PA) (b := PB) (k := k) (by have l1 := hsA.1; have l2 := hsB.1; first | exact matchI_no (.inl (by omega)) | exact matchI_no (.inr (by omega)) | exact matchI_none (q := q) (by omega) hC0)], hs⟩)
 ·refine qB (qA rfl) rfl (qg (Gets.lss rfl rfl rfl) cA) ?_
  iterate 4 refine gx ?_
  by_cases cB : (m2 : Int) < k
  ·refine qB (qM rfl rfl rfl) rfl (qi (Gets.lss rfl rfl rfl) cB) ?_
   iterate 3 refine gx ?_
   refine qC [0, 1, 2, 6, 7, 17] ?_
   refine qq rfl ?_
   iterate 8 refine gx ?_
   exact TE.ret2 rfl rfl rfl (fun w hs => ⟨by rw [matchR_no (old := PA) (b := PB) (k := k) (by have l1 := hsA.1; have l2 := hsB.1; first | exact matchI_no (.inl (by omega)) | exact matchI_no (.inr (by omega)) | exact matchI_none (q := q) (by omega) hC0)], hs⟩)
  ·refine qB (qM rfl rfl rfl) rfl (qg (Gets.lss rfl rfl rfl) cB) ?_
   iterate 3 refine gx ?_
   refine qC [0, 1, 2, 6, 7, 17] ?_
   refine ql rfl ?_
   iterate 9 refine gx ?_
   refine qe (ι := Nat) (fun q => [(0, .slice A m c), (1, .slice A2 m2 c2), (2, .int .i64 k), (8, .int .i64 (q : Int))]) (fun q => []) (fun q => m - q) (fun q => (q = 0 ∨ ((q : Nat) : Int) + k ≤ m + 1) ∧ ∀ j, j < q → ¬ k ≤ (eqN (PA.drop j) PB : Int)) 0 ⟨.inl rfl, fun j hj => absurd hj (Nat.not_lt_zero j)⟩ (qL (i := 0) rfl rfl (by first | omega | (dsimp only; omega) | rfl) (by first | omega | (dsimp only; omega) | rfl) (qL (i := 1) rfl rfl (by first | omega | (dsimp only; omega) | rfl) (by first | omega | (dsimp only; omega) | rfl) (qE (i := 2) rfl (by first | rfl | omega) (qE (i := 8) rfl (by first | omega | rfl) (qK))))) (fun w h => h) (fun q hC0 => ?_)
   obtain ⟨hQ, hC0⟩ := hC0
   iterate 5 refine gx ?_
   refine qB (qA rfl) rfl (qU rfl rfl rfl (r := ((q : Int) + k)) (w64 (by omega) (by omega))) ?_
   iterate 5 refine gx ?_
   refine qC [0, 1, 2, 8, 23] ?_
   refine qQ rfl (fun hq1 => ?_) (fun hq1 => ?_)
   ·iterate 8 refine gx ?_
    refine qB (qA rfl) rfl (zG rfl Tryz.underlying22 size5 rfl (bnd.at_ (l := q) rfl (by omega)) bnd.dflt (by omega) (by omega) rfl (ln := (m - q)) (cp := (c - q)) (by omega) (by omega)) ?_
    refine gx ?_
    refine qR (qA rfl) rfl enters77 rfl rfl (v := .int .i64 ((eqN (PA.drop q) PB) : Int)) (fun w hs => requal_c (PA.drop q) PB (cutA A c q 1) A2 (m - q) (c - q) m2 c2 w ((hsA.toX0.drop (l := q) (by omega) hmc).src.at_ hs (fun b hb => qF)) (hsB.at_ hs (fun b hb => qF)) (by omega) (by omega) (by omega) (by omega)) ?_
    iterate 3 refine gx ?_
    refine qC [0, 1, 2, 8, 9] ?_
    iterate 7 refine gx ?_
    refine qQ rfl (fun hq2 => ?_) (fun hq2 => ?_)
    ·iterate 14 refine gx ?_
     exact TE.ret2 rfl rfl rfl (fun w hs => ⟨by rw [matchR_yes (old := PA) (b := PB) (k := k) (matchI_some (by omega) (by omega) hC0)], hs⟩)
    ·iterate 5 refine gx ?_
     refine qB (qA rfl) rfl (qU rfl rfl rfl (r := ((q : Int) + 1)) (w64 (by omega) (by omega))) ?_
     iterate 2 refine gx ?_
     exact qc (q + 1) (by omega) ⟨.inr (by omega), all_less (p := fun j => k ≤ (eqN (PA.drop j) PB : Int)) hC0 hq2⟩ (qL (i := 0) rfl rfl (by first | omega | (dsimp only; omega) | rfl) (by first | omega | (dsimp only; omega) | rfl) (qL (i := 1) rfl rfl (by first | omega | (dsimp only; omega) | rfl) (by first | omega | (dsimp only; omega) | rfl) (qE (i := 2) rfl (by first | rfl | omega) (qE (i := 8) rfl (by first | omega | rfl) (qK))))) (fun w h => h)
   ·iterate 12 refine gx ?_
    exact TE.ret2 rfl rfl rfl (fun w hs => ⟨by rw [matchR_no (old := PA) (b := PB) (k := k) (by have l1 := hsA.1; have l2 := hsB.1; first | exact matchI_no (.inl (by omega)) | exact matchI_no (.inr (by omega)) | exact matchI_none (q := q) (by omega) hC0)], hs⟩)
def fitsP (o n : Int) (Cs : List CV) (mo : Nat) : Prop := fewP Cs ∧ (faultI o n Cs).1 = 0 ∧ o = mo ∧ n ≤ 3000
noncomputable instance (o n : Int) (Cs : List CV) (mo : Nat) : Decidable (fitsP o n Cs mo) := by unfold fitsP; infer_instance
/-
 The reference of layer 8: Apply.
-/
/-
 A region that draws its order, of which the last operation is a store: makings, appending, the store.
-/
section
variable {P : Program} {ops : Array Oper} {Q : Exit → Act → World → Prop} {n : Sz} {w0 : World} {L L' : List (Nat × Value)} {HB H : List Ent}
variable {o : Oper} {rest : List Oper} {v u : Value} {x y z : Operand} {k m j : Nat} {t t' e : TypeId} {ks : List Nat} {kd : IntKind}
theorem TP.perm {H' : List Ent} (h : H.Perm H') (hr : TP P ops Q n w0 HB ks rest L H') : TP P ops Q n w0 HB ks rest L H := fun a hf => by
 have e : St w0 (HB ++ H) = St w0 (HB ++ H') := funext fun w => propext ⟨fun hs => hs.perm (List.Perm.append_left HB h), fun hs => hs.perm (List.Perm.append_left HB h.symm)⟩
 rw [e]; exact hr a hf
theorem TP.value {ι : Type} {V : ι → Value} {R : ι → Prop} {H' : ι → List Ent} (hg : Wants n ops L o) (hi : inside n o.dst = true)
  (h : ∀ a w, Fr n L a → St w0 (HB ++ H) w → ∃ i w', (execOp a.eval o).run P w = .ok (.value (V i)) w' ∧ R i ∧ St w0 (HB ++ H' i) w')
  (hr : ∀ i, R i → TP P ops Q n w0 HB ks rest (put L o.dst (V i)) (H' i)) : TP P ops Q n w0 HB (3 :: ks) (o :: rest) L H :=
 fun a hf => .inr <| .inl ⟨rfl, fun v S' => ∃ i, R i ∧ v = V i ∧ S' = St w0 (HB ++ H' i), fun w hs => by
  obtain ⟨i, w', h1, h2, h3⟩ := h a w hf hs
  exact ⟨.inl ⟨V i, w', _, h1, ⟨i, h2, rfl, rfl⟩, h3⟩, hg a hf⟩,
  fun v S' ⟨i, hR, h1, h2⟩ => by subst h1; subst h2; exact ⟨fun w hw => ⟨H' i, hw⟩, hr i hR _ (hf.put o.dst _ hi)⟩⟩
theorem TP.buildSlice {len s : Nat} {ps : List (Nat × Operand)} {vs : List (Nat × Value)} {cells : Array Value} {cs : List Value} {zv : Value} (hg : Wants n ops L o) (hi : inside n o.dst = true) (ho : o.op = .buildSlice t len ps.toArray)
  (h1 : P.underlying t = some (.slice e)) (hsz : (P.info? e).map (·.size) = some s) (hz : (P.info? e).bind (·.zero) = some zv) (hv : operVals L ps = some vs) (hlen : len * s ≤ 2 ^ 24) (hpos : (len * s = 0) = False)
  {tot : Nat} (hfill : Instr.fill (fun i => some (i * s, s)) ((Array.range (len * s)).map (zv.cells[· % zv.cells.size]!)) vs = some cells) (hcs : cells.toList = cs) (htot : cs.length = tot)
  (hr : ∀ g, w0.heap.size ≤ g → TP P ops Q n w0 HB ks rest (put L o.dst (.slice (some ⟨g, 0, none⟩) len len)) (⟨g, e, cs, tot⟩ :: H)) : TP P ops Q n w0 HB (3 :: ks) (o :: rest) L H := by
 refine TP.value (ι := Nat) (V := fun g => .slice (some ⟨g, 0, none⟩) len len) (R := fun g => w0.heap.size ≤ g) (H' := fun g => ⟨g, e, cs, tot⟩ :: H) hg hi (fun a w hf hs => ?_) hr
 have hrun : (execOp a.eval o).run P w = .ok (.value (.slice (some ⟨w.heap.size, 0, none⟩) len len)) (w.alloc (.cells cells e)) := by
  have hm := operVals_eval hf hv
  have hm2 : (ps.map fun (x : Nat × Operand) => match x with | (i, x) => (i, a.eval x)) = vs := hm
  simp only [execOp, ho]
  refine run_value ?_
  simp only [Instr.buildSlice, Sem.run_bind, run_under h1, Result.andThen_ok, run_size hsz, List.map_toArray, hm2]
  rw [if_neg (by omega), if_neg (by simp [hpos])]
  simp only [Sem.run_bind, run_zero hz, Result.andThen_ok, Sem.run_pure, hfill]
  simp [newRow, newObj, Sem.run_bind, Sem.run]
 subst htot
 exact ⟨w.heap.size, _, hrun, hs.size, (hs.alloc e cs cells hcs).perm List.perm_middle.symm⟩
theorem TP.appendS {As : Option Addr} {s nn sc bytes : Nat} {cs news : List Value} {H0 He : List Ent} {zv : Value} (hg : Wants n ops L o) (hi' : inside n o.dst = true) (ho : o.op = .call { callee := .builtin .append, args := #[x, y], argTypes := #[t, t] })
  (h1 : P.underlying t = some (.slice e)) (hz : (P.info? e).map (fun i => (i.zero, i.size, i.bytes)) = some (some zv, s, bytes)) (hzc : zv.cells.size = s) (hs0 : 0 < s)
  (hx : ev L x = some v) (hy : ev L y = some (.slice As m sc)) (hown : OwnS w0.heap.size e s v nn cs He) (hl : news.length = m * s) (hsrc : ∀ w, St w0 (HB ++ (H0 ++ He)) w → SrcV w As m news) (h1c : ∀ u ∈ news, u.oneCell' = true)
  (h63 : nn + m ≤ maxLen) (hbytes : (nn + m) * bytes ≤ 140737488355328)
  (hr : ∀ v' He', OwnS w0.heap.size e s v' (nn + m) (cs ++ news) He' → TP P ops Q n w0 HB ks rest (put L o.dst v') (H0 ++ He')) : TP P ops Q n w0 HB (3 :: ks) (o :: rest) L (H0 ++ He) := by
 refine TP.value (ι := Value × List Ent) (V := fun y => y.1) (R := fun y => OwnS w0.heap.size e s y.1 (nn + m) (cs ++ news) y.2) (H' := fun y => H0 ++ y.2) hg hi' (fun a w hf hs => ?_) (fun y hR => hr y.1 y.2 hR)
 have hs2 : St w0 ((HB ++ H0) ++ He) w := by rw [List.append_assoc]; exact hs
 obtain ⟨v', w', He', hrun, hown', hst⟩ := run_appendS (P := P) (t := t) (ty := o.type) (sc := sc) h1 hz hzc hs0 hown hs2 (Nat.le_refl _) (Nat.le_refl _) hl (hsrc w hs) h1c h63 hbytes (fun _ => rfl)
 have hrun' : (execOp a.eval o).run P w = .ok (.value v') w' := by
  simp only [execOp, ho, resolve, invoke, builtin, Sem.run_bind, Sem.run_pure, Result.andThen_ok, List.map_toArray, List.map_cons, List.map_nil, hf.eval hx, hf.eval hy, hrun]
 exact ⟨(v', He'), w', hrun', hown', by rw [List.append_assoc] at hst; exact hst⟩
theorem TP.last1 {i g off : Nat} {ent : Ent} (hg : Wants n ops L o) (hd : o.dst = none) (ho : o.op = .store t x y) (hsz : (P.info? t).map (·.size) = some 1)
  (hx : ev L x = some (.pointer (some ⟨g, off, none⟩))) (hy : ev L y = some v) (hv : v.oneCell' = true) (hi : (HB ++ H)[i]? = some ent) (he : ent.g = g) (hoff : off < ent.cs.length)
  {cs' : List Value} (hcs : ent.cs.set off v = cs') {H' : List Ent} (hH : (HB ++ H).set i ⟨ent.g, ent.t, cs', ent.tot⟩ = H') (hr : TE Q .normal n w0 L H') : TP P ops Q n w0 HB [7] [o] L H :=
 fun a hf => .inr (.inr (.inl ⟨rfl, St w0 H', ⟨hd, fun w hs => ⟨by
  subst he
  subst hcs
  subst hH
  refine ⟨w.setCell ⟨ent.g, off, none⟩ v, ?_, hs.set hi off v⟩
  simp only [execOp, ho, hf.eval hx, hf.eval hy]
  refine run_unit ?_
  have hl := hs.has ent (List.mem_of_getElem? hi)
  have hc := hl.cell (o := off) (List.getElem?_eq_getElem hoff)
  have hfz := hl.free off
  simp only [Instr.storeAt, Instr.sureAddr, storeVar, Sem.run_bind, Sem.run_pure, Result.andThen_ok, run_size hsz, oneCell_cells hv]
  simp only [List.size_toArray, List.length_cons, List.length_nil, Nat.zero_add, ne_eq, not_true_eq_false, if_false, storeCells, Sem.run_bind, Addr.add, if_true, store]
  cases v <;> first | (simp [Value.oneCell'] at hv; done) | simp [Sem.run, hc, hfz], hg a hf⟩⟩, fun hne => absurd rfl hne, fun w hs => hr a w hf hs⟩))
theorem TL.mark2 {i g ln cp : Nat} {ent : Ent} {W : List Int} (hg : Wants n ops L o) (hi' : inside n o.dst = true) (ho : o.op = .convert t t x) (h1 : P.underlying t = some (.slice e)) (h2 : P.underlying e = some (.int .u8))
  (hx : ev L x = some (.slice (some ⟨g, 0, none⟩) ln cp)) (hi : H[i]? = some ent) (he : ent.g = g) (hcs : ent.cs = W.map (int .u8)) (hN : w0.heap.size ≤ g)
  (hr : ∀ w1, (∀ d ∈ H.eraseIdx i, d.g ≠ g) → St w0 (H.eraseIdx i) w1 → RowI w1 g 0 W.length .u8 W → g < w1.heap.size → TL P ops Q n w1 rest (put L o.dst (.slice (some ⟨g, 0, none⟩) ln cp)) []) : TL P ops Q n w0 (o :: rest) L H :=
 fun a w hf hs => wpL_wants hg.nd (hg a hf) fun K hK => by
  subst he
  obtain ⟨cur, hc1, hc2, hc3⟩ := hs.has ent (List.mem_of_getElem? hi)
  have hsh : w.shape? ent.g = some (ent.t, cur.size) := by simp [World.shape?, hc1]
  have hrun : (execOp a.eval o).run P w = .ok (.value (.slice (some ⟨ent.g, 0, none⟩) ln cp)) (w.freeze ⟨ent.g, cur.size, none⟩ 1) := by
   simp only [execOp, ho, hf.eval hx]
   refine run_value ?_
   simp [convert, Sem.run_bind, run_under h1, run_under h2, markStringish, shape, Sem.run, hsh, freeze]
  unfold Oper.wp; rw [hrun]
  have hother : ∀ b, b ≠ ent.g → (w.freeze ⟨ent.g, cur.size, none⟩ 1).heap[b]? = w.heap[b]? := by
   intro b hb
   unfold World.freeze
   rw [if_neg (by omega)]
   simp [Array.getElem?_modify, hb.symm]
  have hsize : (w.freeze ⟨ent.g, cur.size, none⟩ 1).heap.size = w.heap.size := by
   unfold World.freeze
   rw [if_neg (by omega)]
   simp
  have hmem : ∀ e ∈ H.eraseIdx i, e ∈ H ∧ e.g ≠ ent.g := by
   intro c hc
   rw [List.mem_eraseIdx_iff_getElem?] at hc
   obtain ⟨q, hq, hcq⟩ := hc
   exact ⟨List.mem_of_getElem? hcq, pairwise_ne hs.apart hcq hi hq⟩
  have hst := hs.erase hi hN
  have hst1 : St w0 (H.eraseIdx i) (w.freeze ⟨ent.g, cur.size, none⟩ 1) :=
   ⟨by unfold World.freeze; rw [if_neg (by omega)]; exact hst.os, by unfold World.freeze; rw [if_neg (by omega)]; exact hst.tape, by unfold World.freeze; rw [if_neg (by omega)]; exact hst.output, by rw [hsize]; exact hst.size,
    fun c hc => (hst.has c hc).of_block (hother _ (hmem c hc).2), fun b hb hne => (hother b (by omega)).trans (hst.old b hb hne), hst.apart⟩
  refine hK _ _ (hr _ (fun d hd => (hmem d hd).2) hst1 ?_ (by rw [hsize]; exact (hs.has ent (List.mem_of_getElem? hi)).lt) _ _ (hf.put o.dst _ hi') (zE _))
  intro j hj
  have h4 := hc3 j (.int .u8 (W.getD j 0)) (by rw [hcs]; exact qS hj)
  simp [World.cell?, frozen_mark hc1, h4]
end
/-
 A region that draws its order, with a constant text among its operations: a block that is made, marked, and read at the region's end.
-/
structure GEnt where
 g : Nat
 t : TypeId
 cs : List Value
 fl : Nat × Nat
section
variable {P : Program} {ops : Array Oper} {md : Region.Mode} {w0 : World} {HB : List Ent}
end
section
variable {P : Program} {ops : Array Oper} {Q : Exit → Act → World → Prop} {n : Sz} {w0 : World} {L L' : List (Nat × Value)} {HB X : List Ent} {D : List GEnt}
variable {o : Oper} {rest : List Oper} {v u : Value} {x y z : Operand} {k m j : Nat} {t t' e : TypeId} {ks : List Nat} {kd : IntKind} {r : Value → List Ent → Prop} {rs : List (Value → List Ent → Prop)}
end
theorem St.madeB {w0 w w' : World} {HB H : List Ent} {e : Ent} (hs : St w0 (HB ++ H) w) (hw : St w [e] w') (hE : w.heap.size ≤ e.g) : St w0 (HB ++ e :: H) w' := (hs.made hw hE).perm List.perm_middle.symm
/-
 The reference of layer 2: With, the constants in old memory.
-/
instance : AgN Tryz.prog 34 := ⟨agg34⟩
instance : Fld Tryz.prog 36 0 0 := ⟨⟨_, _, _, Tryz.underlying36, rfl, size34, rfl⟩⟩
structure WR where
 k : Nat
 g : Nat
 c : Nat
 He : List Ent
def OwnR (w0 : World) (S : List Int) (k g : Nat) (He : List Ent) : Prop := (k = 0 ∧ He = [] ∧ g < w0.heap.size ∧ RowI w0 g 0 8 .u32 S) ∨ (1 ≤ k ∧ ∃ tot, He = [⟨g, 96, S.map (int .u32), tot⟩] ∧ w0.heap.size ≤ g)
theorem OwnR.fr {w0 : World} {S : List Int} {k g : Nat} {He : List Ent} (h : OwnR w0 S k g He) : Fresh w0 He := by
 rcases h with ⟨_, rfl, _⟩ | ⟨_, tot, rfl, h⟩
 ·exact qa
 ·exact qI h qa
theorem OwnR.row {w0 w : World} {S : List Int} {k g : Nat} {He H : List Ent} (h : OwnR w0 S k g He) (hS : S.length = 8) (hs : St w0 H w) (hH : ∀ b, b < w0.heap.size → ∀ e ∈ H, e.g ≠ b) (hsub : ∀ e ∈ He, e ∈ H) : g < w.heap.size ∧ RowI w g 0 8 .u32 S := by
 rcases h with ⟨_, rfl, h1, h2⟩ | ⟨_, tot, rfl, h1⟩
 ·exact ⟨Nat.lt_of_lt_of_le h1 hs.size, h2.keepH hs h1 (hH g h1)⟩
 ·have hl := hs.has _ (hsub _ List.mem_cons_self)
  exact ⟨hl.lt, rowI_ent hl hS⟩
attribute [local irreducible] blk
theorem rwith_m (M MB : List Int) (LN : Nat) (hMB : padM M = MB) (hLN : MB.length = LN) (hL64 : LN % 64 = 0) (hLb : LN ≤ 5000) (A : Option Addr) (m c0 : Nat) (gs cs gk ck : Nat) (w : World) (hsM : Src w A m .u8 M) (hmc : m ≤ c0) (hm : m ≤ 4000) (hgs : gs < w.heap.size) (hSg : RowI w gs 0 8 .u32 IV) (hgk : gk < w.heap.size) (hKg : RowI w gk 0 64 .u32 KT) (hcs : 8 ≤ cs) (hck : 64 ≤ ck)  : Calls Tryz.prog 33 #[.slice A m c0, .agg ([slice (some ⟨gs, 0, none⟩) 8 cs, slice (some ⟨gk, 0, none⟩) 64 ck]).toArray] w fun e w' => e = .returned (.agg ((shaM M).map (int .u8)).toArray) ∧ St w [] w' := by
 refine qP (args := [.slice A m c0, .agg ([slice (some ⟨gs, 0, none⟩) 8 cs, slice (some ⟨gk, 0, none⟩) 64 ck]).toArray]) Tryz.func33 rfl Tryz.ntmps33 (by simp) ?_
 refine qC [0, 1] ?_
 iterate 2 refine gx ?_
 refine qx (fun g1 hg1 => ?_)
 refine zK (qA rfl) rfl rfl zero23 (cs := (List.replicate 32 0).map (int .u8)) rfl (tot := 32) (by simp) (fun g2 hg2 => ?_)
 iterate 12 refine gx ?_
 refine qr (ι := Nat × Nat) (V := fun y => .slice (some ⟨y.1, 0, none⟩) LN y.2) (R := fun y => (LN ≤ y.2) ∧ w.heap.size ≤ (⟨y.1, 5, MB.map (int .u8), y.2⟩ : Ent).g) (H' := fun y => [⟨y.1, 5, MB.map (int .u8), y.2⟩, ⟨g2, 23, (List.replicate 32 0).map (int .u8), 32⟩, ⟨g1, 36, [slice (some ⟨gs, 0, none⟩) 8 cs, slice (some ⟨gk, 0, none⟩) 64 ck], 2⟩]) (qA rfl) rfl enters56 rfl rfl (fun w hs => (show Calls Tryz.prog 56 #[.slice A m c0] w (fun e w' => ∃ y : Nat × Nat, e = .returned (.slice (some ⟨y.1, 0, none⟩) LN y.2) ∧ (LN ≤ y.2) ∧ w.heap.size ≤ (⟨y.1, 5, MB.map (int .u8), y.2⟩ : Ent).g ∧ St w [⟨y.1, 5, MB.map (int .u8), y.2⟩] w') from (rpad_m M MB LN hMB hLN A m c0 w (hsM.at_ hs (fun b hb => (qD (by show g2 ≠ b; omega) (qD (by show g1 ≠ b; omega) qF)))) hmc hm).mono fun e w' ⟨gv, cv, he, hge, hcv, hw⟩ => ⟨(gv, cv), he, hcv, hge, hw⟩).mono fun e w' ⟨x, he, hR, hE, hw⟩ => ⟨x, he, ⟨hR, Nat.le_trans hs.size hE⟩, hs.made hw hE⟩) (fun y ⟨hcm, hgm⟩ => ?_)
 obtain ⟨gm, cm⟩ := y
 dsimp only at hcm hgm ⊢
 iterate 3 refine gx ?_
 refine qC [3, 4, 5, 6] ?_
 iterate 7 refine gx ?_
 refine qe (ι := WR) (fun x0 => [(3, .pointer (some ⟨g1, 0, none⟩)), (4, .pointer (some ⟨g2, 0, none⟩)), (5, .slice (some ⟨x0.g, 0, none⟩) 8 x0.c), (6, .slice (some ⟨gm, 0, none⟩) LN cm), (7, .int .i64 (64 * (x0.k : Int)))]) (fun x0 => [⟨gm, 5, MB.map (int .u8), cm⟩, ⟨g2, 23, (List.replicate 32 0).map (int .u8), 32⟩, ⟨g1, 36, [slice (some ⟨gs, 0, none⟩) 8 cs, slice (some ⟨gk, 0, none⟩) 64 ck], 2⟩] ++ x0.He) (fun x0 => LN - 64 * x0.k) (fun x0 => (64 * x0.k ≤ LN ∧ 8 ≤ x0.c) ∧ OwnR w (cmp MB x0.k) x0.k x0.g x0.He) (⟨0, gs, cs, []⟩ : WR) ⟨⟨by show 64 * 0 ≤ LN; omega, hcs⟩, .inl ⟨rfl, rfl, hgs, by show RowI w gs 0 8 .u32 (cmp MB 0); rw [show cmp MB 0 = IV by unfold cmp; rfl]; exact hSg⟩⟩ (qH (i := 3) rfl (qH (i := 4) rfl (qL (i := 5) rfl (by first | rfl | (congr 2; omega)) (by first | omega | (dsimp only; omega) | rfl) (by first | omega | (dsimp only; omega) | rfl) (qL (i := 6) rfl rfl (by first | omega | (dsimp only; omega) | rfl) (by first | omega | (dsimp only; omega) | rfl) (qE (i := 7) rfl (by first | omega | rfl) (qK)))))) (fun w h => by rw [List.append_nil]; exact h) (fun x0 hC0 => ?_)
 obtain ⟨k, g, c, He⟩ := x0
 obtain ⟨⟨hk, hc⟩, hor⟩ := hC0
 dsimp only at hk hc hor ⊢
 iterate 9 refine gx ?_
 refine qC [3, 4, 5, 6, 7, 17] ?_
 refine qQ rfl (fun hq0 => ?_) (fun hq0 => ?_)
 ·iterate 4 refine gx ?_
  refine TC.heap (H' := [⟨gm, 5, MB.map (int .u8), cm⟩, ⟨g2, 23, (List.replicate 32 0).map (int .u8), 32⟩, ⟨g1, 36, [slice (some ⟨gs, 0, none⟩) 8 cs, slice (some ⟨gk, 0, none⟩) 64 ck], 2⟩] ++ ([] ++ He)) (fun w h => h) ?_
  refine TC.mixB (HB := [Ent.mk gm 5 (MB.map (int .u8)) cm, Ent.mk g2 23 ((List.replicate 32 0).map (int .u8)) 32, Ent.mk g1 36 ([slice (some ⟨gs, 0, none⟩) 8 cs, slice (some ⟨gk, 0, none⟩) 64 ck]) 2]) (H := [] ++ He) (by kernel_rfl) [0, 0, 0, 0, 0, 0, 3, 0, 0, 3, 0] [0, 1, 2, 3, 4, 5, 7, 8, 6, 9, 10] (by kernel_rfl) ?_
  refine qw (qA rfl) rfl (fun _ => qV rfl rfl) ?_
  refine qw (qA rfl) rfl (fun _ => qV rfl rfl) ?_
  refine qw (qA rfl) rfl (fun _ => qV rfl rfl) ?_
  refine qw (qA rfl) rfl (fun _ => qV rfl rfl) ?_
  refine qw (qA rfl) rfl (fun _ => qU rfl rfl rfl (r := (64 * (k : Int) + 64)) (w64 (by omega) (by omega))) ?_
  refine qw (qA rfl) rfl (fun _ => zG rfl Tryz.underlying22 size5 rfl (bnd.at_ (l := (64 * k)) rfl (by omega)) (bnd.at_ (l := (64 * k + 64)) rfl (by omega)) (by omega) (by omega) (A' := some ⟨gm, (64 * k), none⟩) (cut_is (by omega) (by omega)) (ln := 64) (cp := (cm - 64 * k)) (by omega) (by omega)) ?_
  refine qw (qA rfl) rfl (fun _ => zN rfl Tryz.underlying36 rfl size34 rfl (off' := 1) (by first | rfl | omega)) ?_
  refine TP.stay (qA rfl) rfl (fun H' => qJ rfl agg34 rfl (qO (i := 2) (ent := ⟨g1, 36, [slice (some ⟨gs, 0, none⟩) 8 cs, slice (some ⟨gk, 0, none⟩) 64 ck], 2⟩) (off := 1) rfl rfl (by exact rfl))) ?_
  refine TP.call (ι := Nat × Nat) (V := fun y => .slice (some ⟨y.1, 0, none⟩) 64 y.2) (R := fun y => (64 ≤ y.2) ∧ w.heap.size ≤ (⟨y.1, 96, (sched (blk MB k)).map (int .u32), y.2⟩ : Ent).g) (H' := fun y => [⟨y.1, 96, (sched (blk MB k)).map (int .u32), y.2⟩] ++ He) (qA rfl) rfl enters58 rfl rfl (fun w hs => (show Calls Tryz.prog 58 #[.slice (some ⟨gm, (64 * k), none⟩) 64 (cm - 64 * k)] w (fun e w' => ∃ y : Nat × Nat, e = .returned (.slice (some ⟨y.1, 0, none⟩) 64 y.2) ∧ (64 ≤ y.2) ∧ w.heap.size ≤ (⟨y.1, 96, (sched (blk MB k)).map (int .u32), y.2⟩ : Ent).g ∧ St w [⟨y.1, 96, (sched (blk MB k)).map (int .u32), y.2⟩] w') from (rschedule_m (blk MB k) gm (64 * k) (cm - 64 * k) w (hs.has (⟨gm, 5, MB.map (int .u8), cm⟩) (by simp)).lt (row_blk (hs.has (⟨gm, 5, MB.map (int .u8), cm⟩) (by simp)) (by omega)) (by omega)).mono fun e w' ⟨gv, cv, he, hge, hcv, hw⟩ => ⟨(gv, cv), he, hcv, hge, hw⟩).mono fun e w' ⟨x, he, hR, hE, hw⟩ => ⟨x, he, ⟨hR, Nat.le_trans hs.size hE⟩, St.madeB hs hw hE⟩) (fun y ⟨hcw, hgw⟩ => ?_)
  obtain ⟨gw, cw⟩ := y
  dsimp only at hcw hgw ⊢
  refine TP.call (ι := Nat × Nat) (V := fun y => .slice (some ⟨y.1, 0, none⟩) 8 y.2) (R := fun y => (8 ≤ y.2) ∧ w.heap.size ≤ (⟨y.1, 96, (mixS (cmp MB k) (blk MB k)).map (int .u32), y.2⟩ : Ent).g) (H' := fun y => [⟨y.1, 96, (mixS (cmp MB k) (blk MB k)).map (int .u32), y.2⟩, ⟨gw, 96, (sched (blk MB k)).map (int .u32), cw⟩] ++ He) (qA rfl) rfl enters57 rfl rfl (fun w hs => (show Calls Tryz.prog 57 #[.slice (some ⟨g, 0, none⟩) 8 c, .slice (some ⟨gw, 0, none⟩) 64 cw, .slice (some ⟨gk, 0, none⟩) 64 ck] w (fun e w' => ∃ y : Nat × Nat, e = .returned (.slice (some ⟨y.1, 0, none⟩) 8 y.2) ∧ (8 ≤ y.2) ∧ w.heap.size ≤ (⟨y.1, 96, (mixS (cmp MB k) (blk MB k)).map (int .u32), y.2⟩ : Ent).g ∧ St w [⟨y.1, 96, (mixS (cmp MB k) (blk MB k)).map (int .u32), y.2⟩] w') from (rblock_m (cmp MB k) (blk MB k) g c gw cw gk ck w (cmp_len MB k) (hor.row (cmp_len MB k) hs (fun b hb => (qY (qD (by show gm ≠ b; omega) (qD (by show g2 ≠ b; omega) (qD (by show g1 ≠ b; omega) qF))) (qY (qD (by show gw ≠ b; omega) qF) (hor.fr.ne hb)))) (fun e he => by simp [he])).1 (hor.row (cmp_len MB k) hs (fun b hb => (qY (qD (by show gm ≠ b; omega) (qD (by show g2 ≠ b; omega) (qD (by show g1 ≠ b; omega) qF))) (qY (qD (by show gw ≠ b; omega) qF) (hor.fr.ne hb)))) (fun e he => by simp [he])).2 (by omega) (hs.has (⟨gw, 96, (sched (blk MB k)).map (int .u32), cw⟩) (by simp)).lt (rowI_ent (hs.has (⟨gw, 96, (sched (blk MB k)).map (int .u32), cw⟩) (by simp)) (sched_len _)) (by omega) (Nat.lt_of_lt_of_le hgk hs.size) (hKg.keepH hs hgk (qY (qD (by show gm ≠ gk; omega) (qD (by show g2 ≠ gk; omega) (qD (by show g1 ≠ gk; omega) qF))) (qY (qD (by show gw ≠ gk; omega) qF) (hor.fr.ne hgk)))) (by omega)).mono fun e w' ⟨gv, cv, he, hge, hcv, hw⟩ => ⟨(gv, cv), he, hcv, hge, hw⟩).mono fun e w' ⟨x, he, hR, hE, hw⟩ => ⟨x, he, ⟨hR, Nat.le_trans hs.size hE⟩, St.madeB hs hw hE⟩) (fun y ⟨hcb, hgb⟩ => ?_)
  obtain ⟨gb, cb⟩ := y
  dsimp only at hcb hgb ⊢
  refine qw (qA rfl) rfl (fun _ => Gets.assign rfl rfl) ?_
  refine TP.nil ?_
  refine TE.heap (H' := [⟨gm, 5, MB.map (int .u8), cm⟩, ⟨g2, 23, (List.replicate 32 0).map (int .u8), 32⟩, ⟨g1, 36, [slice (some ⟨gs, 0, none⟩) 8 cs, slice (some ⟨gk, 0, none⟩) 64 ck], 2⟩, ⟨gb, 96, (mixS (cmp MB k) (blk MB k)).map (int .u32), cb⟩, ⟨gw, 96, (sched (blk MB k)).map (int .u32), cw⟩] ++ He) (fun w h => h) ?_
  iterate 2 refine gx ?_
  refine qC [3, 4, 5, 6, 7] ?_
  iterate 2 refine gx ?_
  refine qB (qA rfl) rfl (qU rfl rfl rfl (r := (64 * (k : Int) + 64)) (w64 (by omega) (by omega))) ?_
  iterate 2 refine gx ?_
  exact qc (⟨k + 1, gb, cb, [⟨gb, 96, (cmp MB (k + 1)).map (int .u32), cb⟩]⟩ : WR) (by show LN - 64 * (k + 1) < LN - 64 * k; omega) ⟨⟨by show 64 * (k + 1) ≤ LN; omega, hcb⟩, .inr ⟨by show 1 ≤ k + 1; omega, cb, rfl, hgb⟩⟩ (qH (i := 3) rfl (qH (i := 4) rfl (qL (i := 5) rfl rfl (by first | omega | (dsimp only; omega) | rfl) (by first | omega | (dsimp only; omega) | rfl) (qL (i := 6) rfl rfl (by first | omega | (dsimp only; omega) | rfl) (by first | omega | (dsimp only; omega) | rfl) (qE (i := 7) rfl (by first | omega | rfl) (qK)))))) (fun w h => by have h2 := St.left (H := [⟨gm, 5, MB.map (int .u8), cm⟩, ⟨g2, 23, (List.replicate 32 0).map (int .u8), 32⟩, ⟨g1, 36, [slice (some ⟨gs, 0, none⟩) 8 cs, slice (some ⟨gk, 0, none⟩) 64 ck], 2⟩, ⟨gb, 96, (mixS (cmp MB k) (blk MB k)).map (int .u32), cb⟩]) (h.erase (i := 4) rfl hgw) hor.fr; show St _ [⟨gm, 5, MB.map (int .u8), cm⟩, ⟨g2, 23, (List.replicate 32 0).map (int .u8), 32⟩, ⟨g1, 36, [slice (some ⟨gs, 0, none⟩) 8 cs, slice (some ⟨gk, 0, none⟩) 64 ck], 2⟩, ⟨gb, 96, (cmp MB (k + 1)).map (int .u32), cb⟩] w; rw [cmp_succ]; exact h2)
 ·have hkn : k = LN / 64 := by omega
  have hL0 : 0 < LN := by have := padM_len M; rw [hMB] at this; omega
  obtain ⟨_, tot, rfl, hN⟩ := hor.resolve_left (fun h => by have := h.1; omega)
  have Vl := cmp_len MB k
  have hfin : digI (cmp MB k) 32 = shaM M := by rw [dig_same, sha_padM, hMB, hLN, hkn]
  generalize cmp MB k = V at Vl hfin ⊢
  iterate 7 refine gx ?_
  refine zK (qA rfl) rfl rfl zero23 (cs := (List.replicate 32 0).map (int .u8)) rfl (tot := 32) (by simp) (fun g3 hg3 => ?_)
  iterate 9 refine gx ?_
  refine qe (ι := Nat) (fun i => [(4, .pointer (some ⟨g2, 0, none⟩)), (5, .slice (some ⟨g, 0, none⟩) 8 c), (8, .pointer (some ⟨g3, 0, none⟩)), (9, .int .i64 (i : Int))]) (fun i => [⟨g3, 23, (digI V i).map (int .u8), 32⟩, ⟨gm, 5, MB.map (int .u8), cm⟩, ⟨g2, 23, (List.replicate 32 0).map (int .u8), 32⟩, ⟨g1, 36, [slice (some ⟨gs, 0, none⟩) 8 cs, slice (some ⟨gk, 0, none⟩) 64 ck], 2⟩, ⟨g, 96, V.map (int .u32), tot⟩]) (fun i => 32 - i) (fun i => i ≤ 32) 0 (Nat.zero_le _) (qH (i := 4) rfl (qL (i := 5) rfl rfl (by first | omega | (dsimp only; omega) | rfl) (by first | omega | (dsimp only; omega) | rfl) (qH (i := 8) rfl (qE (i := 9) rfl (by first | omega | rfl) (qK))))) (fun w h => by rw [show digI V 0 = List.replicate 32 0 by unfold digI; rfl]; exact h) (fun i hC1 => ?_)
  iterate 7 refine gx ?_
  refine qQ rfl (fun hq1 => ?_) (fun hq1 => ?_)
  ·iterate 8 refine gx ?_
   refine qB (qA rfl) rfl (Gets.quo rfl rfl rfl (by omega) (r := ((i / 4 : Nat) : Int)) (tdiv_pos (by omega) (w64 (by omega) (by omega)))) ?_
   refine qB (qA rfl) rfl (qW rfl Tryz.underlying34 size96 rfl rfl (i := (((i / 4)))) (by omega) (by omega) (off' := (((i / 4)))) (by omega)) ?_
   refine qB (qA rfl) rfl (qJ rfl agg96 rfl (qO (i := 4) (ent := ⟨g, 96, V.map (int .u32), tot⟩) (off := (((i / 4)))) rfl rfl (by have := qS (kd := .u32) (W := V) (i := (((i / 4)))) (by rw [Vl]; omega); (first | exact this | (refine Eq.trans ?_ this; congr 1; omega))))) ?_
   refine gx ?_
   refine qB (qA rfl) rfl (Gets.rem rfl rfl rfl (by omega) (r := ((i : Int) % 4)) (tmod_pos (by omega) rfl)) ?_
   refine qB (qA rfl) rfl (Gets.mul rfl rfl rfl (r := (8 * ((i : Int) % 4))) (w64 (by omega) (by omega))) ?_
   refine qB (qA rfl) rfl (qu rfl rfl rfl (r := (24 - 8 * ((i : Int) % 4))) (w64 (by omega) (by omega))) ?_
   refine qB (qA rfl) rfl (zI rfl rfl rfl (by omega) (r := (shrI .u32 (V.getD (((i / 4))) 0) (24 - 8 * ((i : Int) % 4)))) rfl) ?_
   refine qB (qA rfl) rfl (qv rfl Tryz.underlying96 Tryz.underlying5 rfl (r := (IntKind.u8.wrap (shrI .u32 (V.getD (((i / 4))) 0) (24 - 8 * ((i : Int) % 4))))) rfl) ?_
   refine qB (qA rfl) rfl (qd rfl Tryz.underlying23 size5 rfl rfl (i := i) (by omega) (by omega) (off' := i) (by omega)) ?_
   refine qy (qA rfl) rfl rfl size5 rfl rfl rfl (i := 0) rfl rfl (by simp [(digI_len V i)] <;> omega) (cs' := ((digI V i).set i (IntKind.u8.wrap (shrI .u32 (V.getD (((i / 4))) 0) (24 - 8 * ((i : Int) % 4))))).map (int .u8)) (ints_set) (H' := [⟨g3, 23, ((digI V i).set i (IntKind.u8.wrap (shrI .u32 (V.getD (((i / 4))) 0) (24 - 8 * ((i : Int) % 4))))).map (int .u8), 32⟩, ⟨gm, 5, MB.map (int .u8), cm⟩, ⟨g2, 23, (List.replicate 32 0).map (int .u8), 32⟩, ⟨g1, 36, [slice (some ⟨gs, 0, none⟩) 8 cs, slice (some ⟨gk, 0, none⟩) 64 ck], 2⟩, ⟨g, 96, V.map (int .u32), tot⟩]) rfl ?_
   iterate 3 refine gx ?_
   refine qC [4, 5, 8, 9] ?_
   iterate 2 refine gx ?_
   refine qB (qA rfl) rfl (qU rfl rfl rfl (r := ((i : Int) + 1)) (w64 (by omega) (by omega))) ?_
   iterate 2 refine gx ?_
   exact qc (i + 1) (by omega) (by omega) (qH (i := 4) rfl (qL (i := 5) rfl rfl (by first | omega | (dsimp only; omega) | rfl) (by first | omega | (dsimp only; omega) | rfl) (qH (i := 8) rfl (qE (i := 9) rfl (by first | omega | rfl) (qK))))) (fun w h => by rw [show digI V (i + 1) = (digI V i).set i (IntKind.u8.wrap (shrI .u32 (V.getD (i / 4) 0) (24 - 8 * ((i : Int) % 4)))) by rw [digI]]; exact h)
  ·obtain rfl : i = 32 := by omega
   iterate 7 refine gx ?_
   refine qB (qA rfl) rfl (qh rfl agg23 size23 rfl (vs := (digI V 32).map (int .u8)) (by simp [(digI_len V 32)]) (qZ (i := 0) (ent := ⟨g3, 23, (digI V 32).map (int .u8), 32⟩) rfl rfl rfl)) ?_
   refine qz (qA rfl) rfl rfl size23 rfl (vs := (digI V 32).map (int .u8)) rfl (by simp [(digI_len V 32)]) qk (i := 2) (ent := ⟨g2, 23, (List.replicate 32 0).map (int .u8), 32⟩) rfl rfl (by simp []) (H' := [⟨g3, 23, (digI V 32).map (int .u8), 32⟩, ⟨gm, 5, MB.map (int .u8), cm⟩, ⟨g2, 23, (digI V 32).map (int .u8), 32⟩, ⟨g1, 36, [slice (some ⟨gs, 0, none⟩) 8 cs, slice (some ⟨gk, 0, none⟩) 64 ck], 2⟩, ⟨g, 96, V.map (int .u32), tot⟩]) rfl ?_
   iterate 3 refine gx ?_
   exact qn rfl agg23 size23 rfl (vs := (digI V 32).map (int .u8)) (by simp [(digI_len V 32)]) (qZ (i := 2) (ent := ⟨g2, 23, (digI V 32).map (int .u8), 32⟩) rfl rfl rfl) (fun w hs => ⟨congrArg (fun D => Ending.returned (.agg (List.map (int .u8) D).toArray)) hfin, (St.left (H := []) hs (qI (by assumption) (qI (by assumption) (qI (by assumption) (qI (by assumption) (qI (by assumption) qa))))))⟩)
theorem rwith_g (M : List Int) (A : Option Addr) (m c0 : Nat) (gs cs gk ck : Nat) (w : World) (hsM : Src w A m .u8 M) (hmc : m ≤ c0) (hm : m ≤ 4000) (hgs : gs < w.heap.size) (hSg : RowI w gs 0 8 .u32 IV) (hgk : gk < w.heap.size) (hKg : RowI w gk 0 64 .u32 KT) (hcs : 8 ≤ cs) (hck : 64 ≤ ck) : Calls Tryz.prog 33 #[.slice A m c0, .agg ([slice (some ⟨gs, 0, none⟩) 8 cs, slice (some ⟨gk, 0, none⟩) 64 ck]).toArray] w fun e w' => e = .returned (.agg ((shaM M).map (int .u8)).toArray) ∧ St w [] w' :=
 rwith_m M (padM M) (padM M).length rfl rfl (padM_mod M) (padM_le M (by have := hsM.1; omega)) A m c0 gs cs gk ck w hsM hmc hm hgs hSg hgk hKg hcs hck
/-
 Arrays of numbers that are held against each other with '!='.
-/
section
variable {P : Program} {n : Sz} {w0 : World} {o : Oper} {L : List (Nat × Value)} {H : List Ent} {t t' e : TypeId} {x y : Operand} {kd : IntKind}
end
/-
 The reference of layer 8: Verify.
-/
theorem enters33 : Enters Tryz.prog 33 := ⟨_, Tryz.func33, by kernel_rfl, by kernel_rfl⟩
instance : AgY Tryz.prog 36 := ⟨agg36⟩
instance : Siz Tryz.prog 36 2 := ⟨size36⟩
open Classical in
noncomputable def verI (B : List Int) (mo : Nat) (o n : Int) (H1 H2 : List Int) (Cs : List CV) : Int × Int :=
 if (faultI o n Cs).1 ≠ 0 then faultI o n Cs else if o ≠ mo then (13, (mo : Int)) else if shaM B ≠ H1 then (14, 0) else if shaM (newB B Cs n) ≠ H2 then (15, 0) else (0, 0)
theorem verI_5 {B : List Int} {mo : Nat} {o n : Int} {H1 H2 : List Int} {Cs : List CV} (h : ¬ (faultI o n Cs).1 ≠ 0) (h2 : ¬ o ≠ mo) (h3 : ¬ shaM B ≠ H1) (h4 : ¬ shaM (newB B Cs n) ≠ H2) : verI B mo o n H1 H2 Cs = (0, 0) := by unfold verI; rw [if_neg h, if_neg h2, if_neg h3, if_neg h4]
/-
 The reference of layer 8: Describe.
-/
theorem enters16 : Enters Tryz.prog 16 := ⟨_, Tryz.func16, by kernel_rfl, by kernel_rfl⟩
instance : Zer Tryz.prog 36 [slice none 0 0, slice none 0 0] := ⟨⟨_, zero36, rfl⟩⟩
theorem list32 {l : List Int} (h : l.length = 32) : ∃ a0 a1 a2 a3 a4 a5 a6 a7 a8 a9 a10 a11 a12 a13 a14 a15 a16 a17 a18 a19 a20 a21 a22 a23 a24 a25 a26 a27 a28 a29 a30 a31 : Int, l = [a0, a1, a2, a3, a4, a5, a6, a7, a8, a9, a10, a11, a12, a13, a14, a15, a16, a17, a18, a19, a20, a21, a22, a23, a24, a25, a26, a27, a28, a29, a30, a31] := by
 match l, h with
 | [a0, a1, a2, a3, a4, a5, a6, a7, a8, a9, a10, a11, a12, a13, a14, a15, a16, a17, a18, a19, a20, a21, a22, a23, a24, a25, a26, a27, a28, a29, a30, a31], _ => exact ⟨a0, a1, a2, a3, a4, a5, a6, a7, a8, a9, a10, a11, a12, a13, a14, a15, a16, a17, a18, a19, a20, a21, a22, a23, a24, a25, a26, a27, a28, a29, a30, a31, rfl⟩
theorem buildD (o n : Int) (D1 D2 : List Int) (h1 : D1.length = 32) (h2 : D2.length = 32) (A : Option Addr) (m c : Nat) (w : World) : (Instr.build 26 ([(0, int .i64 o), (1, int .i64 n), (2, Value.agg (D1.map (int .u8)).toArray), (3, Value.agg (D2.map (int .u8)).toArray), (4, slice A m c)] : List (Nat × Value)).toArray).run Tryz.prog w = .ok (.agg (dV o n D1 D2 (slice A m c)).toArray) w := by
 obtain ⟨a0, a1, a2, a3, a4, a5, a6, a7, a8, a9, a10, a11, a12, a13, a14, a15, a16, a17, a18, a19, a20, a21, a22, a23, a24, a25, a26, a27, a28, a29, a30, a31, rfl⟩ := list32 h1
 obtain ⟨b0, b1, b2, b3, b4, b5, b6, b7, b8, b9, b10, b11, b12, b13, b14, b15, b16, b17, b18, b19, b20, b21, b22, b23, b24, b25, b26, b27, b28, b29, b30, b31, rfl⟩ := list32 h2
 kernel_rfl
theorem rdescribe_c (B P2 : List Int) (Ao A2 : Option Addr) (mo co m2 c2 : Nat) (A : Option Addr) (m c : Nat) (hmo : mo ≤ co) (hm2 : m2 ≤ c2) (hmo3 : mo ≤ 4000) (hm23 : m2 ≤ 4000) (w : World) (hsB : Src w Ao mo .u8 B) (hs2 : Src w A2 m2 .u8 P2) : Calls Tryz.prog 18 #[.slice Ao mo co, .slice A2 m2 c2, .slice A m c] w fun e w' => e = .returned (.agg (dV (mo : Int) (m2 : Int) (shaM B) (shaM P2) (slice A m c)).toArray) ∧ St w [] w' := by
 refine qP (args := [.slice Ao mo co, .slice A2 m2 c2, .slice A m c]) Tryz.func18 rfl Tryz.ntmps18 (by simp) ?_
 refine qC [0, 1, 2] ?_
 iterate 2 refine gx ?_
 refine zK (qA rfl) rfl rfl zero26 (cs := [int .i64 0, int .i64 0] ++ ((List.replicate 64 0).map (int .u8) ++ ([slice none 0 0]))) rfl (tot := 67) (by simp) (fun g1 hg1 => ?_)
 iterate 4 refine gx ?_
 refine qr (ι := Nat × Nat × Nat × Nat) (V := fun y => .agg ([slice (some ⟨y.1, 0, none⟩) 8 y.2.1, slice (some ⟨y.2.2.1, 0, none⟩) 64 y.2.2.2]).toArray) (R := fun y => w.heap.size ≤ y.1 ∧ w.heap.size ≤ y.2.2.1 ∧ 8 ≤ y.2.1 ∧ 64 ≤ y.2.2.2) (H' := fun y => [⟨g1, 26, [int .i64 0, int .i64 0] ++ ((List.replicate 64 0).map (int .u8) ++ ([slice none 0 0])), 67⟩, ⟨y.2.2.1, 96, KT.map (int .u32), y.2.2.2⟩, ⟨y.1, 96, IV.map (int .u32), y.2.1⟩]) (qA rfl) rfl enters16 rfl rfl (fun w hs => (rtable_c w).mono fun e w' ⟨gs, cs, gk, ck, he, h1, h2, h3, h4, hw⟩ => ⟨(gs, cs, gk, ck), he, ⟨Nat.le_trans hs.size h1, Nat.le_trans hs.size h2, h3, h4⟩, st_call (H := [⟨g1, 26, [int .i64 0, int .i64 0] ++ ((List.replicate 64 0).map (int .u8) ++ ([slice none 0 0])), 67⟩]) hs hw (fun d hd => (List.mem_cons.1 hd).elim (fun e => e ▸ h2) (fun hd => (List.mem_singleton.1 hd) ▸ h1))⟩) (fun y hy => ?_)
 obtain ⟨gs, cs, gk, ck⟩ := y
 dsimp only at hy ⊢
 obtain ⟨hgs, hgk, hcs, hck⟩ := hy
 refine qb (fun g2 hg2 => ?_)
 iterate 4 refine gx ?_
 refine TC.mixS [⟨g2, 36, [slice (some ⟨gs, 0, none⟩) 8 cs, slice (some ⟨gk, 0, none⟩) 64 ck], 2⟩, ⟨gk, 96, KT.map (int .u32), ck⟩, ⟨gs, 96, IV.map (int .u32), cs⟩] [⟨g1, 26, [int .i64 0, int .i64 0] ++ ((List.replicate 64 0).map (int .u8) ++ ([slice none 0 0])), 67⟩] (by kernel_rfl) [0, 0, 0, 0, 0, 1, 1, 0, 1, 1, 0, 0, 4] [0, 1, 2, 3, 4, 5, 6, 7, 8, 9, 10, 11, 12] [fun _ _ => True, fun _ _ => True, fun _ _ => True, fun _ _ => True, fun _ _ => True, fun _ _ => True, fun _ _ => True, fun _ _ => True, fun _ _ => True, fun _ _ => True, fun _ _ => True, fun _ _ => True, fun _ _ => True] (by kernel_rfl) (by kernel_rfl) (perm_pick (p := [0, 2, 3, 1]) (by kernel_rfl) rfl) (qI (by assumption) qa) ?_
 iterate 6 refine gx ?_
 refine TR.call0 (qA rfl) rfl enters33 rfl rfl (v := .agg ((shaM B).map (int .u8)).toArray) (fun Z w hZ hs => rwith_g B Ao mo co gs cs gk ck w (hsB.at_ hs (fun b hb => (qY (qD (by show g2 ≠ b; omega) (qD (by show gk ≠ b; omega) (qD (by show gs ≠ b; omega) qF))) (qY qF (hZ.ne hb))))) (by omega) (by omega) (hs.has (⟨gs, 96, IV.map (int .u32), cs⟩) (by simp)).lt (rowI_ent (hs.has (⟨gs, 96, IV.map (int .u32), cs⟩) (by simp)) IV_len) (hs.has (⟨gk, 96, KT.map (int .u32), ck⟩) (by simp)).lt (rowI_ent (hs.has (⟨gk, 96, KT.map (int .u32), ck⟩) (by simp)) KT_len) hcs hck) ?_
 iterate 2 refine gx ?_
 refine TR.call0 (qA rfl) rfl enters33 rfl rfl (v := .agg ((shaM P2).map (int .u8)).toArray) (fun Z w hZ hs => rwith_g P2 A2 m2 c2 gs cs gk ck w (hs2.at_ hs (fun b hb => (qY (qD (by show g2 ≠ b; omega) (qD (by show gk ≠ b; omega) (qD (by show gs ≠ b; omega) qF))) (qY qF (hZ.ne hb))))) (by omega) (by omega) (hs.has (⟨gs, 96, IV.map (int .u32), cs⟩) (by simp)).lt (rowI_ent (hs.has (⟨gs, 96, IV.map (int .u32), cs⟩) (by simp)) IV_len) (hs.has (⟨gk, 96, KT.map (int .u32), ck⟩) (by simp)).lt (rowI_ent (hs.has (⟨gk, 96, KT.map (int .u32), ck⟩) (by simp)) KT_len) hcs hck) ?_
 refine gx ?_
 refine TR.free (qA rfl) rfl (fun _ => qm rfl (vs := [(0, int .i64 (mo : Int)), (1, int .i64 (m2 : Int)), (2, Value.agg ((shaM B).map (int .u8)).toArray), (3, Value.agg ((shaM P2).map (int .u8)).toArray), (4, slice A m c)]) rfl (fun w => buildD (mo : Int) (m2 : Int) (shaM B) (shaM P2) (shaM_len B) (shaM_len P2) A m c w) (v := .agg (dV (mo : Int) (m2 : Int) (shaM B) (shaM P2) (slice A m c)).toArray)) ?_
 refine TR.storeW (qA rfl) rfl rfl size26 rfl (vs := dV (mo : Int) (m2 : Int) (shaM B) (shaM P2) (slice A m c)) rfl (by simp [(shaM_len B), (shaM_len P2)]) (zH (by simp [Value.oneCell']) (zH qk (zH qk (by simp [Value.oneCell'])))) (i := 0) (ent := ⟨g1, 26, [int .i64 0, int .i64 0] ++ ((List.replicate 64 0).map (int .u8) ++ ([slice none 0 0])), 67⟩) rfl rfl (by simp []) (D' := [⟨g1, 26, dV (mo : Int) (m2 : Int) (shaM B) (shaM P2) (slice A m c), 67⟩]) rfl (qI (by assumption) qa) ?_
 iterate 3 refine gx ?_
 exact qn rfl agg26 size26 rfl (vs := dV (mo : Int) (m2 : Int) (shaM B) (shaM P2) (slice A m c)) (by simp [(shaM_len B), (shaM_len P2)]) (qZ (i := 3) (ent := ⟨g1, 26, dV (mo : Int) (m2 : Int) (shaM B) (shaM P2) (slice A m c), 67⟩) rfl rfl rfl) (fun w hs => ⟨rfl, (St.left (H := []) hs (qI (by assumption) (qI (by assumption) (qI (by assumption) (qI (by assumption) qa)))))⟩)
/-
 Maps with few keys, of the call's own: made, filled, looked up; and calls of method values.
-/
section
variable {P : Program} {ops : Array Oper} {Q : Exit → Act → World → Prop} {n : Sz} {w0 : World} {L L' : List (Nat × Value)} {H : List Ent}
variable {o : Oper} {rest : List Oper} {v u : Value} {x y z : Operand} {t e k : TypeId} {kq : IntKind}
theorem TL.makeMap (hg : Wants n ops L o) (hi : inside n o.dst = true) (ho : o.op = .makeMap t none)
  (hr : ∀ w1 b, w0.heap.size ≤ b → b < w1.heap.size → (∀ e ∈ H, e.g ≠ b) → St w0 H w1 → w1.heap[b]? = some (.map #[] 0) → TL P ops Q n w1 rest (put L o.dst (.map (some b))) H) : TL P ops Q n w0 (o :: rest) L H :=
 fun a w hf hs => wpL_wants hg.nd (hg a hf) fun K hK => by
  have hrun : (execOp a.eval o).run P w = .ok (.value (.map (some w.heap.size))) (w.alloc (.map #[] 0)) := by
   simp only [execOp, ho]
   refine run_value ?_
   simp [Instr.makeMap, newObj, Sem.run_bind, Sem.run]
  have hold : ∀ b, b < w.heap.size → (w.alloc (.map #[] 0)).heap[b]? = w.heap[b]? := fun b hb => Below.heap_alloc w _ b hb
  have hst : St w0 H (w.alloc (.map #[] 0)) := ⟨hs.os, hs.tape, hs.output, by simp; have := hs.size; omega, fun d hd => (hs.has d hd).of_block (hold _ (hs.has d hd).lt),
   fun b hb hne => (hold b (Nat.lt_of_lt_of_le hb hs.size)).trans (hs.old b hb hne), hs.apart⟩
  unfold Oper.wp; rw [hrun]
  exact hK _ _ (hr _ w.heap.size hs.size (by simp) (fun e he => by have := (hs.has e he).lt; omega) hst (heap_alloc_new w _) _ _ (hf.put o.dst _ hi) hst.self)
theorem run_lookupM {w : World} {b c : Nat} {es : Array MapEntry} {q : Int} {ck : Bool} {r : Option (Nat × Value)} {zv : Value} (hM : w.heap[b]? = some (.map es c)) (h1 : P.underlying t = some (.map k e)) (hk : P.underlying k = some (.int kq)) (hzv : (P.info? e).bind (·.zero) = some zv)
  (hfind : Instr.findNow (.int kq) (.int kq q) es.toList 0 = some r) : (Instr.lookup t (.map (some b)) (.int kq q) ck).run P w = .ok (let v := match r with | some (_, u) => u | none => zv; if ck then .tuple #[v, .bool r.isSome] else v) w := by
 cases r with
 | none => simp [Instr.lookup, Sem.run_bind, run_under h1, MapKept.run_getObj_map hM, MapKept.run_checkKey hk (k := .int kq q) (by simp [MapKept.IsKey]), MapKept.run_findKey hk hfind, run_zero hzv]
 | some p => obtain ⟨i, u⟩ := p; simp [Instr.lookup, Sem.run_bind, run_under h1, MapKept.run_getObj_map hM, MapKept.run_checkKey hk (k := .int kq q) (by simp [MapKept.IsKey]), MapKept.run_findKey hk hfind]
theorem Gets.lookYes {b c i : Nat} {es : Array MapEntry} {q : Int} {zv : Value} (hM : w0.heap[b]? = some (.map es c)) (hne : ∀ e ∈ H, e.g ≠ b) (ho : o.op = .lookup t x y true) (h1 : P.underlying t = some (.map k e)) (hk : P.underlying k = some (.int kq)) (hzv : (P.info? e).bind (·.zero) = some zv)
  (hx : ev L x = some (.map (some b))) (hy : ev L y = some (.int kq q)) (hfind : Instr.findNow (.int kq) (.int kq q) es.toList 0 = some (some (i, v))) : Gets P n w0 o L H (.tuple #[v, .bool true]) := fun a w hf hs => by
 have hbm : w.heap[b]? = some (.map es c) := (hs.old b (Array.getElem?_eq_some_iff.1 hM).1 hne).trans hM
 simp only [execOp, ho, hf.eval hx, hf.eval hy]
 refine run_value ?_
 rw [run_lookupM hbm h1 hk hzv hfind]; rfl
theorem Gets.lookNo {b c : Nat} {es : Array MapEntry} {q : Int} {zv : Value} (hM : w0.heap[b]? = some (.map es c)) (hne : ∀ e ∈ H, e.g ≠ b) (ho : o.op = .lookup t x y true) (h1 : P.underlying t = some (.map k e)) (hk : P.underlying k = some (.int kq)) (hzv : (P.info? e).bind (·.zero) = some zv)
  (hx : ev L x = some (.map (some b))) (hy : ev L y = some (.int kq q)) (hfind : Instr.findNow (.int kq) (.int kq q) es.toList 0 = some none) : Gets P n w0 o L H (.tuple #[zv, .bool false]) := fun a w hf hs => by
 have hbm : w.heap[b]? = some (.map es c) := (hs.old b (Array.getElem?_eq_some_iff.1 hM).1 hne).trans hM
 simp only [execOp, ho, hf.eval hx, hf.eval hy]
 refine run_value ?_
 rw [run_lookupM hbm h1 hk hzv hfind]; rfl
theorem find_nil {q : Int} {j : Nat} : Instr.findNow (.int kq) (.int kq q) [] j = some none := rfl
theorem find_yes {q : Int} {j c : Nat} {u : Value} {es : List MapEntry} : Instr.findNow (.int kq) (.int kq q) (⟨.int kq q, u, c⟩ :: es) j = some (some (j, u)) := by
 simp [Instr.findNow, Instr.sameNow]
theorem find_no {q q' : Int} {j c : Nat} {u : Value} {es : List MapEntry} {r : Option (Nat × Value)} (h : q ≠ q') (hr : Instr.findNow (.int kq) (.int kq q) es (j + 1) = some r) : Instr.findNow (.int kq) (.int kq q) (⟨.int kq q', u, c⟩ :: es) j = some r := by
 have hq : (q == q') = false := by simpa using h
 simp [Instr.findNow, Instr.sameNow, hq, hr]
theorem find_is {q q' : Int} {j c : Nat} {u : Value} {es : List MapEntry} (h : q = q') : Instr.findNow (.int kq) (.int kq q) (⟨.int kq q', u, c⟩ :: es) j = some (some (j, u)) := by subst h; exact find_yes
end
/-
 A range over a function whose rounds take two values and whose invariant is a fact about the world; and the same where the rounds make blocks of their own.
-/
section
variable {P : Program} {ops : Array Oper} {Q : Exit → Act → World → Prop} {n : Sz} {w0 v W w : World} {L L' : List (Nat × Value)} {H A B HC X : List Ent} {o : Oper} {rest : List Oper} {ex : Exit}
def RoundM (sz : Nat) (Ks : Nat → Prop) (v : World) (M1 : World → Prop) : Exit → Act → World → Prop
 | .normal, _, W => M1 W ∧ Holds Ks v W ∧ sz ≤ W.heap.size
 | _, _, _ => False
def AsgM (n : Sz) (La : List (Nat × Value)) (v : World) : Act → World → Prop := fun a W => Fr n La a ∧ St v [] W
theorem TE.asg {La : List (Nat × Value)} (hs : Sub La L) : TE (Exit.then (AsgM n La v) (fun _ _ _ => False)) .normal n v L [] := fun a w hf hst => ⟨hf.sub hs, hst⟩
theorem TC.rangeM {g : Operand} {p1 p2 : Tmp} {assign body : Code} {gf : FuncId} {lb : List Value} {V1 V2 : Nat → Value} {N c : Nat} {Cap : Nat → Prop}
  (hmd : n.md = .plain) (hds : n.ds = []) (hp1 : inside n (some p1) = true) (hp2 : inside n (some p2) = true) (hg : ev L g = some (.func (.func gf) #[] lb.toArray)) (hent : Enters P gf)
  (hit : ∀ w, St w0 H w → IterC Fence.wide 2 P gf lb.toArray (fun i => #[V1 i, V2 i]) N c Cap w)
  (M : Nat → Nat → World → Prop) (La : Nat → List (Nat × Value))
  (h0 : ∀ w, St w0 H w → M w.heap.size 0 w)
  (hM : ∀ lo i A B, w0.heap.size ≤ lo → M lo i A → Beside lo (lo + 2 + c) A B → M lo i B)
  (hcap : ∀ w, St w0 H w → ∀ k, Cap k → k < w.heap.size)
  (hassign : ∀ l i v, i < N → TC P (Exit.then (AsgM ⟨n.size, [], .inn (some l)⟩ (La i) v) (fun _ _ _ => False)) ⟨n.size, [], .inn (some l)⟩ v assign ((p2, V2 i) :: (p1, V1 i) :: L) [])
  (hbody : ∀ l lo i v a, i < N → w0.heap.size ≤ lo → lo + 2 + c ≤ v.heap.size → (∀ k, Cap k → k < lo) → M lo i v → Fr ⟨n.size, [], .inn (some l)⟩ (La i) a →
   wpn (.inn (some l)) P body (RoundM (lo + 2 + c) (fun k => (lo ≤ k ∧ k < lo + 2 + c) ∨ Cap k) v (M lo (i + 1))) a v)
  (hdone : ∀ lo W, w0.heap.size ≤ lo → M lo N W → W.heap[lo]? = some (.deferred (some [])) → TE Q .normal ⟨n.size, [mark lo], .plain⟩ W L []) :
  TC P Q n w0 (.rangeFunc g #[p1, p2] assign body) L H := by
 intro a w hf hs
 have hsz := hs.size
 rw [hmd]
 have frM : ∀ D, Fr ⟨n.size, [mark D], .plain⟩ L { a with defers := { target := .collected D, args := #[] } :: a.defers } := fun D => ⟨by show _ :: a.defers = _; rw [hf.1, hds]; rfl, hf.2⟩
 refine wpIn_wide.1 (wpIn_rangeFunc_it (F := Fence.wide) (n := 3) (w0 := w) rfl (by omega) (gf := gf) (lb := lb.toArray) (hf.eval hg) trivial (fun args w => run_call hent args w) (hit w hs) (Below.refl _ _) (hcap w hs) (fun _ => rfl)
  (fun i W => M w.heap.size i W)
  (fun j i W => False)
  (fun i a W => Fr ⟨n.size, [], .plain⟩ (La i) a ∧ M w.heap.size i W)
  ?hI ?hIx ?hAx (h0 w hs) ?assign ?body ?done ?stop)
 case hI => exact fun i A B h hb => hM _ i A B hsz h hb
 case hIx => exact fun j i A B h _ => h
 case hAx => exact fun i a' A B h hb => ⟨h.1, hM _ i A B hsz h.2 hb⟩
 case assign =>
  rintro l i W hiN hMi hWs
  have hfr : Fr ⟨n.size, [], .inn (some l)⟩ ((p2, V2 i) :: (p1, V1 i) :: L) { tmps := ((#[p1, p2] : Array Tmp).zip #[V1 i, V2 i]).foldl (fun t (p, v) => t.setIfInBounds p v) a.tmps, defers := [] } := by
   have h1 := hf.put (some p1) (V1 i) hp1
   have h := h1.put (some p2) (V2 i) hp2
   refine ⟨rfl, ?_, ?_⟩
   ·simpa [Act.put] using h.2.1
   ·have h3 := h.2.2
    unfold Proofs.YtegddcklbmonfaaGreatDoor.put at h3
    simpa [Act.put] using h3
  have h := hassign l i W hiN _ W hfr (zE W)
  refine wpIn_mono (wpIn_num (F := Fence.wide.inRound l) rfl (m := 2) h) ?_
  intro e a1 W1 hq
  cases e with
  | normal =>
   obtain ⟨hfr1, hst⟩ := hq
   have hbe : Beside w.heap.size (w.heap.size + 2 + c) W W1 := Beside.of_below hst.below
   exact ⟨⟨⟨hfr1.1, hfr1.2⟩, hM _ i W W1 hsz hMi hbe⟩, Keeps.below hst.below⟩
  | _ => exact hq.elim
 case body =>
  rintro l i a1 W hiN ⟨hfr, hMi⟩ hWs
  have h := hbody l w.heap.size i W a1 hiN hsz hWs (hcap w hs) hMi ⟨hfr.1, hfr.2⟩
  refine wpIn_mono (wpIn_num (F := Fence.wide.inRound l) rfl (m := 2) h) ?_
  intro e a2 W2 hq
  cases e with
  | normal => exact ⟨hq.2.1, hq.2.2, hq.1⟩
  | _ => exact hq.elim
 case done =>
  rintro W hMN hD
  exact hdone _ W hsz hMN hD _ W (frM _) (zE W)
 case stop =>
  rintro j i W hiN h hD
  exact h.elim
def cutW (hi : Nat) (v : World) : World := { v with heap := v.heap.extract 0 hi }
theorem cutW_size {hi : Nat} (h : hi ≤ v.heap.size) : (cutW hi v).heap.size = hi := by simp [cutW]; omega
theorem cutW_get {hi k : Nat} (hk : k < hi) (h : hi ≤ v.heap.size) : (cutW hi v).heap[k]? = v.heap[k]? := by
 have h1 : k < v.heap.size := by omega
 unfold cutW
 simp only
 rw [Array.getElem?_extract]
 simp only [Nat.zero_add, Nat.sub_zero]
 rw [if_pos (by omega)]
def RoundX {ι : Type} (B : World) (C1 : ι → Prop) (Hc He : ι → List Ent) : Exit → Act → World → Prop
 | .normal, _, W => ∃ x, C1 x ∧ Fresh B (He x) ∧ St B (Hc x ++ He x) W
 | _, _, _ => False
theorem TE.roundX {ι : Type} {C1 : ι → Prop} {Hc He : ι → List Ent} (x : ι) (hC : C1 x) (hF : Fresh w0 (He x)) (hH : ∀ w, St w0 H w → St w0 (Hc x ++ He x) w) : TE (RoundX w0 C1 Hc He) .normal n w0 L H := fun a w _ hs => ⟨x, hC, hF, hH w hs⟩
theorem TC.rangeX {ι : Type} {g : Operand} {p1 p2 : Tmp} {assign body : Code} {gf : FuncId} {lb : List Value} {V1 V2 : Nat → Value} {N c : Nat} {Cap : Nat → Prop}
  (hmd : n.md = .plain) (hds : n.ds = []) (hp1 : inside n (some p1) = true) (hp2 : inside n (some p2) = true) (hg : ev L g = some (.func (.func gf) #[] lb.toArray)) (hent : Enters P gf)
  (hit : ∀ w, St w0 H w → IterC Fence.wide 2 P gf lb.toArray (fun i => #[V1 i, V2 i]) N c Cap w)
  (C : Nat → Nat → ι → Prop) (Hc He : ι → List Ent) (gs : List Nat) (La : Nat → List (Nat × Value)) (x0 : ι)
  (hgs : ∀ x, (Hc x).map (·.g) = gs) (hCm : ∀ N0 N1 i x, N0 ≤ N1 → C N1 i x → C N0 i x) (hC0 : ∀ N0, w0.heap.size ≤ N0 → C N0 0 x0) (h0 : ∀ w, St w0 H w → St w0 (Hc x0) w) (he0 : He x0 = [])
  (hcap : ∀ w, St w0 H w → ∀ k, Cap k → k < w.heap.size ∧ k ∉ gs)
  (hassign : ∀ l i v, i < N → TC P (Exit.then (AsgM ⟨n.size, [], .inn (some l)⟩ (La i) v) (fun _ _ _ => False)) ⟨n.size, [], .inn (some l)⟩ v assign ((p2, V2 i) :: (p1, V1 i) :: L) [])
  (hbody : ∀ l i x B, i < N → w0.heap.size ≤ B.heap.size → C B.heap.size i x → Fresh B (He x) → St w0 (Hc x) B → TC P (RoundX B (C B.heap.size (i + 1)) Hc He) ⟨n.size, [], .inn (some l)⟩ B body (La i) (Hc x ++ He x))
  (hdone : ∀ lo x B, w0.heap.size ≤ lo → w0.heap.size ≤ B.heap.size → C B.heap.size N x → Fresh B (He x) → St w0 (Hc x) B → B.heap[lo]? = some (.deferred (some [])) → (∀ k ∈ gs, k < lo) → TE Q .normal ⟨n.size, [mark lo], .plain⟩ B L (Hc x ++ He x)) :
  TC P Q n w0 (.rangeFunc g #[p1, p2] assign body) L H := by
 have gsI : ∀ {x : ι} {e : Ent}, e ∈ Hc x → e.g ∈ gs := fun {x e} he => by rw [← hgs x]; exact List.mem_map_of_mem he
 have gsO : ∀ {x : ι} {k : Nat}, k ∈ gs → ∃ e ∈ Hc x, e.g = k := fun {x k} hk => by
  rw [← hgs x] at hk
  obtain ⟨e, he, h⟩ := List.mem_map.1 hk
  exact ⟨e, he, h⟩
 intro a w hf hs
 have hlt : ∀ k ∈ gs, k < w.heap.size := fun k hk => by
  obtain ⟨e, he, h⟩ := gsO (x := x0) hk
  rw [← h]; exact ((h0 w hs).has e he).lt
 have hw0 := hs.size
 refine TC.rangeM (H := []) (w0 := w) (L := L) (V1 := V1) (V2 := V2) (N := N) (c := c) (Cap := Cap) hmd hds hp1 hp2 hg hent (fun w1 h1 => ?it)
  (fun lo i W => ∃ x, C (lo + 2 + c) i x ∧ (∀ e ∈ He x, lo + 2 + c ≤ e.g) ∧ St w0 (Hc x ++ He x) W) La ?h0 ?hM ?hcap hassign ?body ?done a w hf (zE w)
 case it => exact hit w1 (hs.call' h1)
 case h0 =>
  intro w1 h1
  refine ⟨x0, hC0 _ (by have := h1.size; omega), (by rw [he0]; intro e he; cases he), ?_⟩
  rw [he0, List.append_nil]; exact (h0 w hs).call' h1
 case hM =>
  rintro lo i A B hlo ⟨x, h1, h2, h3⟩ hb
  refine ⟨x, h1, h2, h3.besides hb (fun e he => ?_) (by omega)⟩
  rcases List.mem_append.1 he with he | he
  ·have := hlt _ (gsI he); exact .inl (by omega)
  ·exact .inr (h2 e he)
 case hcap => exact fun w1 h1 k hk => (hcap w1 (hs.call' h1) k hk).1
 case body =>
  rintro l lo i v a1 hiN hlo hv hcl ⟨x, h1, h2, h3⟩ hfr
  have hsz := cutW_size hv
  have hF : Fresh (cutW (lo + 2 + c) v) (He x) := fun e he => by rw [hsz]; exact h2 e he
  have hB0 : St w0 (Hc x) (cutW (lo + 2 + c) v) := by
   refine ⟨h3.os, h3.tape, h3.output, by rw [hsz]; omega, fun e he => ?_, fun b hb hne => ?_, (List.pairwise_append.1 h3.apart).1⟩
   ·exact (h3.has e (List.mem_append.2 (.inl he))).of_block (cutW_get (by have := hlt _ (gsI he); omega) hv)
   ·refine (cutW_get (by omega) hv).trans (h3.old b hb fun e he => ?_)
    rcases List.mem_append.1 he with he | he
    ·exact hne e he
    ·have := h2 e he; omega
  have hBv : St (cutW (lo + 2 + c) v) (Hc x ++ He x) v := ⟨rfl, rfl, rfl, by rw [hsz]; exact hv, h3.has, fun b hb _ => (cutW_get (by rw [hsz] at hb; exact hb) hv).symm, h3.apart⟩
  have h := hbody l i x (cutW (lo + 2 + c) v) hiN (by rw [hsz]; omega) (by rw [hsz]; exact h1) hF hB0 a1 v hfr hBv
  refine wpn_mono h ?_
  intro e a2 W2 hq
  cases e with
  | normal =>
   obtain ⟨x', k1, k2, k3⟩ := hq
   rw [hsz] at k1
   have k2' : ∀ e ∈ He x', lo + 2 + c ≤ e.g := fun e he => by have := k2 e he; rw [hsz] at this; exact this
   refine ⟨⟨x', k1, k2', ?_⟩, fun k hk hkv => ?_, by have := k3.size; rw [hsz] at this; exact this⟩
   ·have := St.over (A := Hc x) (HC := []) (by rw [List.append_nil]; exact hB0) k3 (fun _ _ d hd => by cases hd) (fun d hd => by
     obtain ⟨e, he, h⟩ := gsO (x := x') (gsI hd)
     exact .inr ⟨e, List.mem_append.2 (.inl he), h⟩)
    rwa [List.append_nil] at this
   ·have hk2 : k < lo + 2 + c := by
     rcases hk with hk | hk
     ·omega
     ·have := hcl k hk; omega
    refine (k3.old k (by rw [hsz]; exact hk2) fun e he => ?_).trans (cutW_get hk2 hv)
    rcases List.mem_append.1 he with he | he
    ·rcases hk with hk | hk
     ·have := hlt _ (gsI he); omega
     ·intro heq
      exact (hcap w hs k hk).2 (by rw [← heq]; exact gsI he)
    ·have := k2' e he; omega
  | _ => exact hq.elim
 case done =>
  rintro lo W hlo ⟨x, h1, h2, h3⟩ hD
  intro a1 w1 hf1 hs1
  have hloW : lo < W.heap.size := (Array.getElem?_eq_some_iff.1 hD).1
  have hgl : ∀ k ∈ gs, k < lo := fun k hk => by have := hlt k hk; omega
  have hv : lo + 1 ≤ W.heap.size := hloW
  have hsz := cutW_size hv
  have hF : Fresh (cutW (lo + 1) W) (He x) := fun e he => by rw [hsz]; have := h2 e he; omega
  have hB0 : St w0 (Hc x) (cutW (lo + 1) W) := by
   refine ⟨h3.os, h3.tape, h3.output, by rw [hsz]; omega, fun e he => ?_, fun b hb hne => ?_, (List.pairwise_append.1 h3.apart).1⟩
   ·exact (h3.has e (List.mem_append.2 (.inl he))).of_block (cutW_get (by have := hlt _ (gsI he); omega) hv)
   ·refine (cutW_get (by omega) hv).trans (h3.old b hb fun e he => ?_)
    rcases List.mem_append.1 he with he | he
    ·exact hne e he
    ·have := h2 e he; omega
  have h4 := h3.self.call' hs1
  have hBw : St (cutW (lo + 1) W) (Hc x ++ He x) w1 := ⟨h4.os, h4.tape, h4.output, by rw [hsz]; exact Nat.le_trans hv h4.size, h4.has, fun b hb hne => (h4.old b (by rw [hsz] at hb; omega) hne).trans (cutW_get (by rw [hsz] at hb; exact hb) hv).symm, h4.apart⟩
  exact hdone lo x (cutW (lo + 1) W) (by omega) (by rw [hsz]; omega) (hCm _ _ _ _ (by rw [hsz]; omega) h1) hF hB0 ((cutW_get (by omega) hv).trans hD) hgl a1 w1 hf1 hBw
end
/-
 Mathematics of the hashes of blocks: a number with the bytes as its digits, modulo 2^64; and of the smallest offset of a block.
-/
abbrev HB : Int := 11400714819323198485
theorem u64_wrap (x : Int) : IntKind.u64.wrap x = x % 18446744073709551616 := by
 unfold IntKind.wrap
 first | rfl | (simp [IntKind.bits, IntKind.signed]; done) | (simp only []; rfl)
def polyI (l : List Int) : Int := l.foldl (fun h x => h * HB + x) 0
def pwI (k : Nat) : Int := HB ^ k % 18446744073709551616
def hshI (l : List Int) : Int := polyI l % 18446744073709551616
theorem poly_snoc (l : List Int) (x : Int) : polyI (l ++ [x]) = polyI l * HB + x := by simp [polyI, List.foldl_append]
theorem poly_from (l : List Int) : ∀ a : Int, l.foldl (fun h x => h * HB + x) a = a * HB ^ l.length + polyI l := by
 induction l with
 | nil => intro a; simp [polyI]
 | cons x l ih =>
  intro a
  have h0 : polyI (x :: l) = (0 * HB + x) * HB ^ l.length + polyI l := ih (0 * HB + x)
  rw [List.foldl_cons, ih, h0, List.length_cons, Int.pow_succ]
  generalize HB ^ l.length = p
  generalize polyI l = q
  grind
theorem poly_cons (x : Int) (l : List Int) : polyI (x :: l) = x * HB ^ l.length + polyI l := by
 rw [polyI, List.foldl_cons, poly_from]
 simp
theorem hsh_range (l : List Int) : 0 ≤ hshI l ∧ hshI l ≤ 18446744073709551615 := by unfold hshI; omega
theorem hsh_one {x : Int} (h : 0 ≤ x ∧ x ≤ 255) : hshI [x] = x := by
 unfold hshI polyI
 simp only [List.foldl_cons, List.foldl_nil]
 omega
theorem pw_zero : pwI 0 = 1 := by decide
theorem hsh_snoc (l : List Int) (x : Int) : addW .u64 (mulW .u64 (hshI l) HB) x = hshI (l ++ [x]) := by
 unfold addW mulW hshI
 rw [u64_wrap, u64_wrap, poly_snoc]
 rw [Int.emod_add_emod, Int.add_emod, Int.mul_emod (polyI l % _) HB, Int.emod_emod, ← Int.mul_emod, ← Int.add_emod]
theorem pw_succ (k : Nat) : mulW .u64 (pwI k) HB = pwI (k + 1) := by
 unfold mulW pwI
 rw [u64_wrap, Int.pow_succ, Int.mul_emod (HB ^ k % _) HB, Int.emod_emod, ← Int.mul_emod]
theorem hsh_roll (a : Int) (l : List Int) (x : Int) {k : Nat} (hk : l.length = k) : addW .u64 (mulW .u64 (subW .u64 (hshI (a :: l)) (mulW .u64 a (pwI k))) HB) x = hshI (l ++ [x]) := by
 have h1 : subW .u64 (hshI (a :: l)) (mulW .u64 a (pwI k)) = hshI l := by
  unfold subW mulW hshI pwI
  rw [u64_wrap, u64_wrap, poly_cons, hk]
  rw [Int.mul_emod a (HB ^ k % _), Int.emod_emod, ← Int.mul_emod, Int.sub_emod, Int.emod_emod, Int.emod_emod, ← Int.sub_emod]
  congr 1
  omega
 rw [h1, hsh_snoc]
def blkI (B : List Int) (s k : Nat) : List Int := (B.drop k).take s
theorem blk_len {B : List Int} {s k : Nat} (h : k + s ≤ B.length) : (blkI B s k).length = s := by
 unfold blkI; rw [List.length_take, List.length_drop]; omega
theorem blk_cons {B : List Int} {s k : Nat} (h : k < B.length) (hs : 0 < s) : blkI B s k = B.getD k 0 :: (B.drop (k + 1)).take (s - 1) := by
 unfold blkI
 obtain ⟨t, rfl⟩ : ∃ t, s = t + 1 := ⟨s - 1, by omega⟩
 rw [List.drop_eq_getElem_cons h, List.take_succ_cons, getD_in h]; rfl
theorem blk_snoc {B : List Int} {s k : Nat} (h : k + s < B.length) (hs : 0 < s) : blkI B s (k + 1) = (B.drop (k + 1)).take (s - 1) ++ [B.getD (k + s) 0] := by
 unfold blkI
 obtain ⟨t, rfl⟩ : ∃ t, s = t + 1 := ⟨s - 1, by omega⟩
 have ht : t < (B.drop (k + 1)).length := by rw [List.length_drop]; omega
 rw [List.take_succ_eq_append_getElem ht, List.getElem_drop, getD_in h]
 simp only [Nat.add_sub_cancel]
 congr 2
 simp only [Nat.add_right_comm, Nat.add_assoc]
theorem hsh_next {B : List Int} {s k : Nat} (h : k + s < B.length) (hs : 0 < s) : addW .u64 (mulW .u64 (subW .u64 (hshI (blkI B s k)) (mulW .u64 (B.getD k 0) (pwI (s - 1)))) HB) (B.getD (k + s) 0) = hshI (blkI B s (k + 1)) := by
 rw [blk_cons (by omega) hs, blk_snoc h hs]
 refine hsh_roll _ _ _ ?_
 rw [List.length_take, List.length_drop]; omega
theorem hsh_first {B : List Int} {i : Nat} (h : i < B.length) : addW .u64 (mulW .u64 (hshI (B.take i)) HB) (B.getD i 0) = hshI (B.take (i + 1)) := by
 rw [hsh_snoc, List.take_succ_eq_append_getElem h, getD_in h]
theorem hsh_zero {B : List Int} (hB : Bytes B) (h : 0 < B.length) : hshI (B.take 1) = B.getD 0 0 := by
 rw [List.take_succ_eq_append_getElem h, List.take_zero, List.nil_append, hsh_one (hB _ (List.getElem_mem h)), getD_in h]
def cntH (n : Nat) (k : Int) : Nat := if k < 1 ∨ (n : Int) < k then 0 else n - k.toNat + 1
theorem cntH_no {n : Nat} {k : Int} (h : k < 1 ∨ (n : Int) < k) : cntH n k = 0 := if_pos h
theorem cntH_yes {n s : Nat} (h1 : 1 ≤ s) (h2 : s ≤ n) : cntH n (s : Int) = n - s + 1 := by
 unfold cntH; rw [if_neg (by omega), Int.toNat_natCast]
theorem cntH_lt {n i : Nat} {k : Int} (h : i < cntH n k) : 1 ≤ k ∧ i + k ≤ n := by
 unfold cntH at h
 split at h
 ·omega
 ·omega
theorem eqN_blk {a b : List Int} {s : Nat} (hb : s ≤ b.length) (ha : s ≤ a.length) : s ≤ eqN a b ↔ a.take s = b.take s := by
 constructor
 ·intro h
  have h1 := congrArg (List.take s) (eqN_take a b)
  rw [List.take_take, List.take_take, Nat.min_eq_left h] at h1
  exact h1
 ·intro h
  apply Classical.byContradiction
  intro hlt
  have h2 : eqN a b < s := by omega
  have e1 : a.getD (eqN a b) 0 = b.getD (eqN a b) 0 := by
   rw [getD_in (by omega), getD_in (by omega)]
   have h3 := congrArg (fun l : List Int => l[eqN a b]?) h
   simp only [List.getElem?_take, if_pos h2] at h3
   rw [List.getElem?_eq_getElem (by omega), List.getElem?_eq_getElem (by omega)] at h3
   exact Option.some.inj h3
  have h4 : ∀ n, n ≤ eqN a b → eqN a b = n + eqN (a.drop n) (b.drop n) := by
   intro n
   induction n with
   | zero => intro _; simp
   | succ n ih =>
    intro hn
    have h5 := ih (by omega)
    have e2 : a.getD n 0 = b.getD n 0 := by
     rw [getD_in (by omega), getD_in (by omega)]
     have h6 := congrArg (fun l : List Int => l[n]?) (eqN_take a b)
     simp only [List.getElem?_take, if_pos (show n < eqN a b by omega)] at h6
     rw [List.getElem?_eq_getElem (by omega), List.getElem?_eq_getElem (by omega)] at h6
     exact Option.some.inj h6
    rw [eqN_yes (by omega) (by omega) e2] at h5
    omega
  have h7 := h4 (eqN a b) (Nat.le_refl _)
  rw [eqN_yes (by omega) (by omega) e1] at h7
  omega
/-
 The first offset of a hash; a map from hashes to first offsets; the smallest offset of a block by way of them.
-/
def firstH (B : List Int) (s k : Nat) (q : Int) : Option Nat := (List.range k).find? fun off => decide (hshI (blkI B s off) = q)
theorem firstH_succ (B : List Int) (s k : Nat) (q : Int) : firstH B s (k + 1) q = (firstH B s k q).or (if hshI (blkI B s k) = q then some k else none) := by
 unfold firstH
 rw [List.range_succ, List.find?_append]
 congr 1
 by_cases h : hshI (blkI B s k) = q
 ·rw [if_pos h]; simp [h]
 ·rw [if_neg h]; simp [h]
theorem firstH_some {B : List Int} {s k off : Nat} {q : Int} (h : firstH B s k q = some off) : off < k ∧ hshI (blkI B s off) = q ∧ ∀ j, j < off → ¬ hshI (blkI B s j) = q := by
 unfold firstH at h
 rw [List.find?_range_eq_some] at h
 obtain ⟨h1, h2, h3⟩ := h
 exact ⟨List.mem_range.1 h2, by simpa using h1, fun j hj => by simpa using h3 j hj⟩
theorem firstH_none {B : List Int} {s k : Nat} {q : Int} (h : firstH B s k q = none) : ∀ j, j < k → ¬ hshI (blkI B s j) = q := by
 unfold firstH at h
 rw [List.find?_range_eq_none] at h
 exact fun j hj => by simpa using h j hj
theorem findNow_app {kq : IntKind} {q : Int} : ∀ {es : List MapEntry} {fs : List MapEntry} {j : Nat}, (∀ e ∈ es, ∃ z : Int, e.key = .int kq z) →
  Instr.findNow (.int kq) (.int kq q) (es ++ fs) j = (match Instr.findNow (.int kq) (.int kq q) es j with
   | some none => Instr.findNow (.int kq) (.int kq q) fs (j + es.length)
   | r => r)
 | [], fs, j, _ => by simp [Instr.findNow]
 | e :: es, fs, j, he => by
  obtain ⟨z, hz⟩ := he e List.mem_cons_self
  obtain ⟨ek, ev, ec⟩ := e
  dsimp only at hz
  subst hz
  have ih := findNow_app (kq := kq) (q := q) (es := es) (fs := fs) (j := j + 1) (fun e h => he e (List.mem_cons_of_mem _ h))
  by_cases h : q = z
  ·subst h
   rw [List.cons_append, find_yes, find_yes]
  ·have hq : (q == z) = false := by simpa using h
   have e1 : ∀ l : List MapEntry, Instr.findNow (.int kq) (.int kq q) (⟨.int kq z, ev, ec⟩ :: l) j = Instr.findNow (.int kq) (.int kq q) l (j + 1) := fun l => by simp [Instr.findNow, Instr.sameNow, hq]
   rw [List.cons_append, e1, e1, ih, List.length_cons]
   rw [show j + 1 + es.length = j + (es.length + 1) by omega]
def MapE (es : Array MapEntry) (B : List Int) (s k : Nat) : Prop := (∀ e ∈ es.toList, ∃ z : Int, e.key = .int .u64 z) ∧ ∀ q : Int, ∃ j, Instr.findNow (.int .u64) (.int .u64 q) es.toList 0 = some ((firstH B s k q).map fun off => (j, int .i64 (off : Int)))
theorem MapE.zero (B : List Int) (s : Nat) : MapE #[] B s 0 := ⟨by simp, fun q => ⟨0, rfl⟩⟩
theorem MapE.same {es : Array MapEntry} {B : List Int} {s k : Nat} (h : MapE es B s k) (hf : firstH B s k (hshI (blkI B s k)) ≠ none) : MapE es B s (k + 1) := by
 refine ⟨h.1, fun q => ?_⟩
 obtain ⟨j, hj⟩ := h.2 q
 refine ⟨j, ?_⟩
 rw [hj, firstH_succ]
 by_cases hq : hshI (blkI B s k) = q
 ·subst hq
  cases hx : firstH B s k (hshI (blkI B s k)) with
  | none => exact absurd hx hf
  | some o => rfl
 ·rw [if_neg hq, Option.or_none]
theorem MapE.push {es : Array MapEntry} {B : List Int} {s k c : Nat} (h : MapE es B s k) (hf : firstH B s k (hshI (blkI B s k)) = none) : MapE (es.push ⟨.int .u64 (hshI (blkI B s k)), .int .i64 (k : Int), c⟩) B s (k + 1) := by
 refine ⟨fun e he => ?_, fun q => ?_⟩
 ·rw [Array.toList_push] at he
  rcases List.mem_append.1 he with he | he
  ·exact h.1 e he
  ·rw [List.mem_singleton.1 he]; exact ⟨_, rfl⟩
 ·obtain ⟨j, hj⟩ := h.2 q
  rw [Array.toList_push, findNow_app h.1, hj, firstH_succ]
  cases hx : firstH B s k q with
  | some o => exact ⟨j, rfl⟩
  | none =>
   refine ⟨0 + es.toList.length, ?_⟩
   simp only [Option.map_none, Option.none_or]
   by_cases hq : hshI (blkI B s k) = q
   ·rw [if_pos hq, find_is hq.symm]; rfl
   ·rw [if_neg hq]; exact find_no (fun e => hq e.symm) find_nil
def MapAt (w : World) (b : Nat) (B : List Int) (s k : Nat) : Prop := ∃ es c, w.heap[b]? = some (.map es c) ∧ MapE es B s k
theorem MapAt.lt {w : World} {b : Nat} {B : List Int} {s k : Nat} (h : MapAt w b B s k) : b < w.heap.size := by
 obtain ⟨es, c, h, _⟩ := h
 exact (Array.getElem?_eq_some_iff.1 h).1
theorem MapAt.of_block {w w' : World} {b : Nat} {B : List Int} {s k : Nat} (h : MapAt w b B s k) (hb : w'.heap[b]? = w.heap[b]?) : MapAt w' b B s k := by
 obtain ⟨es, c, h, hm⟩ := h
 exact ⟨es, c, hb.trans h, hm⟩
theorem MapAt.at_ {w0 w : World} {H : List Ent} {b : Nat} {B : List Int} {s k : Nat} (h : MapAt w0 b B s k) (hs : St w0 H w) (hne : ∀ e ∈ H, e.g ≠ b) : MapAt w b B s k := h.of_block (hs.old b h.lt hne)
theorem bytesOf_inj : ∀ {a b : List Int}, Bytes a → Bytes b → Lib.bytesOf a = Lib.bytesOf b → a = b
 | [], [], _, _, _ => rfl
 | [], y :: b, _, _, h => by simp [Lib.bytesOf] at h
 | x :: a, [], _, _, h => by simp [Lib.bytesOf] at h
 | x :: a, y :: b, ha, hb, h => by
  simp only [Lib.bytesOf, List.map_cons, List.cons.injEq] at h
  have hx := ha x List.mem_cons_self
  have hy := hb y List.mem_cons_self
  have h1 := congrArg UInt8.toNat h.1
  rw [UInt8.toNat_ofNat', UInt8.toNat_ofNat'] at h1
  have h2 : x = y := by omega
  rw [h2, bytesOf_inj (fun z hz => ha z (List.mem_cons_of_mem _ hz)) (fun z hz => hb z (List.mem_cons_of_mem _ hz)) h.2]
theorem Bytes.drop' {l : List Int} (h : Bytes l) (k : Nat) : Bytes (l.drop k) := fun x hx => h x (List.mem_of_mem_drop hx)
theorem Bytes.take' {l : List Int} (h : Bytes l) (k : Nat) : Bytes (l.take k) := fun x hx => h x (List.mem_of_mem_take hx)
theorem occAt_is {F P : List Int} (hF : Bytes F) (hP : Bytes P) (j : Nat) : Lib.occAt (Lib.bytesOf F) (Lib.bytesOf P) j = true ↔ (F.drop j).take P.length = P := by
 unfold Lib.occAt
 rw [← Lib.bytesOf_drop, List.isPrefixOf_iff_prefix, List.prefix_iff_eq_take, Lib.bytesOf_length, ← Lib.bytesOf_take]
 constructor
 ·intro h
  exact (bytesOf_inj hP ((hF.drop' j).take' _) h).symm
 ·intro h
  rw [h]
theorem occ_eqN {F P : List Int} {j : Nat} (hj : j + P.length ≤ F.length) : ((F.drop j).take P.length = P ↔ (P.length : Int) ≤ eqN (F.drop j) P) := by
 have h := eqN_blk (a := F.drop j) (b := P) (s := P.length) (Nat.le_refl _) (by rw [List.length_drop]; omega)
 rw [List.take_length] at h
 constructor
 ·intro h1; exact Int.ofNat_le.2 (h.2 h1)
 ·intro h1; exact h.1 (Int.ofNat_le.1 h1)
theorem occ_room {F P : List Int} {j : Nat} (hp : P ≠ []) (h : (F.drop j).take P.length = P) : j + P.length ≤ F.length := by
 have h1 := congrArg List.length h
 rw [List.length_take, List.length_drop] at h1
 have h2 : P.length ≠ 0 := fun e => hp (List.length_eq_zero_iff.1 e)
 omega
theorem match_no {F P : List Int} {s : Nat} (hs : 1 ≤ s) (hP : P.length = s) (h : firstH F s (cntH F.length s) (hshI P) = none) : matchI F P (s : Int) = none := by
 by_cases hl : F.length < s
 ·exact matchI_none (q := 0) (by omega) (fun q' hq => absurd hq (Nat.not_lt_zero q'))
 ·rw [cntH_yes hs (by omega)] at h
  refine matchI_none (q := F.length - s + 1) (by omega) (fun q' hq hle => ?_)
  have h2 := firstH_none h q' hq
  apply h2
  have h3 := (occ_eqN (F := F) (P := P) (j := q') (by omega)).2 (by rw [hP]; exact hle)
  rw [hP] at h3
  unfold blkI; rw [h3]
theorem match_from {F P : List Int} {s off : Nat} (hs : 1 ≤ s) (hP : P.length = s) (hF : Bytes F) (hPb : Bytes P) (h : firstH F s (cntH F.length s) (hshI P) = some off) :
  off + s ≤ F.length ∧ ((Lib.index (Lib.bytesOf (F.drop off)) (Lib.bytesOf P) < 0 ∧ matchI F P (s : Int) = none) ∨ ∃ i : Nat, Lib.index (Lib.bytesOf (F.drop off)) (Lib.bytesOf P) = i ∧ matchI F P (s : Int) = some (off + i) ∧ off + i ≤ F.length) := by
 obtain ⟨h1, h2, h3⟩ := firstH_some h
 have hl : s ≤ F.length := by
  apply Classical.byContradiction
  intro hn
  rw [cntH_no (by omega)] at h1; omega
 rw [cntH_yes hs hl] at h1
 have hne : P ≠ [] := fun e => by rw [e] at hP; simp at hP; omega
 have hbef : ∀ q' : Nat, q' < off → ¬ (s : Int) ≤ (eqN (F.drop q') P : Int) := fun q' hq hle => by
  apply h3 q' hq
  have h4 := (occ_eqN (F := F) (P := P) (j := q') (by omega)).2 (by rw [hP]; exact hle)
  rw [hP] at h4
  unfold blkI; rw [h4]
 refine ⟨by omega, ?_⟩
 rcases Lib.index_spec (Lib.bytesOf (F.drop off)) (Lib.bytesOf P) with ⟨e1, e2⟩ | ⟨i, e1, e2, e3, e4⟩
 ·left
  refine ⟨by omega, matchI_none (q := F.length - s + 1) (by omega) fun q' hq hle => ?_⟩
  by_cases hqo : q' < off
  ·exact hbef q' hqo hle
  ·have h4 := (occ_eqN (F := F) (P := P) (j := q') (by omega)).2 (by rw [hP]; exact hle)
   have h5 := e2 (q' - off) (by rw [Lib.bytesOf_length, List.length_drop]; omega)
   have h6 := (occAt_is (hF.drop' off) hPb (q' - off)).2 (by rw [List.drop_drop, show off + (q' - off) = q' by omega]; exact h4)
   rw [h5] at h6; cases h6
 ·right
  have h4 := (occAt_is (hF.drop' off) hPb i).1 e3
  have h5 := occ_room hne h4
  rw [List.length_drop] at h5
  rw [List.drop_drop] at h4
  have h6 := (occ_eqN (F := F) (P := P) (j := off + i) (by omega)).1 h4
  refine ⟨i, e1, matchI_some (by omega) (by rw [hP] at h6; exact h6) (fun q' hq hle => ?_), by omega⟩
  by_cases hqo : q' < off
  ·exact hbef q' hqo hle
  ·have h7 := (occ_eqN (F := F) (P := P) (j := q') (by omega)).2 (by rw [hP]; exact hle)
   have h8 := e4 (q' - off) (by omega)
   have h9 := (occAt_is (hF.drop' off) hPb (q' - off)).2 (by rw [List.drop_drop, show off + (q' - off) = q' by omega]; exact h7)
   rw [h8] at h9; cases h9
theorem match_blk {F Q : List Int} {s p : Nat} (hs : 1 ≤ s) (hp : p + s ≤ Q.length) : matchI F (blkI Q s p) (s : Int) = matchI F (Q.drop p) (s : Int) := by
 have hlen : (blkI Q s p).length = s := blk_len hp
 have key : ∀ q : Nat, (decide ((s : Int) ≤ eqN (F.drop q) (blkI Q s p))) = decide ((s : Int) ≤ eqN (F.drop q) (Q.drop p)) := fun q => by
  apply decide_eq_decide.2
  by_cases ha : s ≤ (F.drop q).length
  ·have h1 := eqN_blk (a := F.drop q) (b := blkI Q s p) (s := s) (by omega) ha
   have h2 := eqN_blk (a := F.drop q) (b := Q.drop p) (s := s) (by rw [List.length_drop]; omega) ha
   have h3 : (blkI Q s p).take s = (Q.drop p).take s := by unfold blkI; rw [List.take_take, Nat.min_self]
   rw [h3] at h1
   constructor
   ·intro h; exact Int.ofNat_le.2 (h2.2 (h1.1 (Int.ofNat_le.1 h)))
   ·intro h; exact Int.ofNat_le.2 (h1.2 (h2.1 (Int.ofNat_le.1 h)))
  ·have h1 := (eqN_le (F.drop q) (blkI Q s p)).1
   have h2 := (eqN_le (F.drop q) (Q.drop p)).1
   constructor <;> intro h <;> omega
 unfold matchI
 rw [if_neg (by rw [hlen]; omega), if_neg (by rw [List.length_drop]; omega)]
 congr 1
 funext q
 exact key q
/-
 The iterator over blocks and their hashes: what it has captured, what a round of it leaves.
-/
structure CapB (w : World) (ps pb b ob m c s : Nat) (B : List Int) : Prop where
 fs : w.cell? ⟨ps, 0, none⟩ = some (.int .i64 (s : Int))
 fx : w.cell? ⟨pb, 0, none⟩ = some (.slice (some ⟨b, ob, none⟩) m c)
 fr : RowI w b ob m .u8 B
 h1 : ps < w.heap.size
 h2 : pb < w.heap.size
 h3 : b < w.heap.size
def capB (ps pb b : Nat) (k : Nat) : Prop := k = ps ∨ k = pb ∨ k = b
section
variable {P : Program} {w0 v w w' W : World} {ps pb b ob m c s : Nat} {B : List Int} {H : List Ent}
theorem CapB.lt (h : CapB w ps pb b ob m c s B) {k : Nat} (hk : capB ps pb b k) : k < w.heap.size := by
 rcases hk with rfl | rfl | rfl
 ·exact h.h1
 ·exact h.h2
 ·exact h.h3
theorem rowI_of_block {w w' : World} {b o n : Nat} {kd : IntKind} {B : List Int} (h : RowI w b o n kd B) (hb : w'.heap[b]? = w.heap[b]?) : RowI w' b o n kd B := fun j hj => (World.cell?_of_block (w := w) hb).trans (h j hj)
theorem CapB.keepL (h : CapB w ps pb b ob m c s B) (hk : ∀ k, capB ps pb b k → w'.heap[k]? = w.heap[k]?) (hl : ∀ k, capB ps pb b k → k < w'.heap.size) : CapB w' ps pb b ob m c s B :=
 ⟨(World.cell?_of_block (w := w) (hk ps (.inl rfl))).trans h.fs, (World.cell?_of_block (w := w) (hk pb (.inr (.inl rfl)))).trans h.fx, rowI_of_block h.fr (hk b (.inr (.inr rfl))), hl _ (.inl rfl), hl _ (.inr (.inl rfl)), hl _ (.inr (.inr rfl))⟩
theorem CapB.at_ (h : CapB w0 ps pb b ob m c s B) (hs : St w0 H w) (hne : ∀ b, b < w0.heap.size → ∀ e ∈ H, e.g ≠ b) : CapB w ps pb b ob m c s B :=
 h.keepL (fun k hk => hs.old k (h.lt hk) (hne k (h.lt hk))) (fun k hk => Nat.lt_of_lt_of_le (h.lt hk) hs.size)
theorem CapB.bel (h : CapB w0 ps pb b ob m c s B) (hb : Below w0.heap.size w0 w) : CapB w ps pb b ob m c s B :=
 h.keepL (fun k hk => hb.block k (h.lt hk)) (fun k hk => Nat.lt_of_lt_of_le (h.lt hk) hb.size)
theorem h_yield {l : Nat} {J Jx : Nat → World → Prop} {N k : Nat}
  (hJ : ∀ s A B, J s A → Beside W.heap.size (W.heap.size + 0) A B → J s B)
  (hY : ∀ i W1, i < N → J i W1 → W.heap.size + 0 ≤ W1.heap.size → YieldAt Fence.wide (2 - 1) P l #[.int .i64 (i : Int), .int .u64 (hshI (blkI B s i))] W1 fun e W' =>
   (e = .returned (.bool true) ∧ J (i + 1) W' ∧ Holds (fun k => (W.heap.size ≤ k ∧ k < W.heap.size + 0) ∨ capB ps pb b k) W1 W' ∧ W.heap.size + 0 ≤ W'.heap.size) ∨ (e = .returned (.bool false) ∧ Jx (i + 1) W'))
  (hN : k < N) (hj : J k v) (hc : CapB v ps pb b ob m c s B) (hsz : W.heap.size ≤ v.heap.size) (hs : St v H w) (hn : ∀ e ∈ H, v.heap.size ≤ e.g) :
  YieldAt Fence.wide 1 P l #[.int .i64 (k : Int), .int .u64 (hshI (blkI B s k))] w fun e w' => (e = .returned (.bool true) ∧ (J (k + 1) w' ∧ CapB w' ps pb b ob m c s B ∧ W.heap.size ≤ w'.heap.size)) ∨ (e = .returned (.bool false) ∧ Jx (k + 1) w') := by
 have hb := St.beside0 (lo := W.heap.size) hs hn
 have hsw := hs.size
 obtain ⟨fn, tmps, assign, body, h1, h2⟩ := hY k w hN (hJ _ _ _ hj hb) (by omega)
 have hcw : CapB w ps pb b ob m c s B := hc.at_ hs (fun x hx e he => by have := hn e he; omega)
 refine ⟨fn, tmps, assign, body, h1, h2.mono ?_⟩
 rintro e w' (⟨he, hj', hk, hz⟩ | ⟨he, hx⟩)
 ·exact .inl ⟨he, hj', hcw.keepL (fun k hk' => hk k (.inr hk') (hcw.lt hk')) (fun k hk' => hk.lt (.inr hk') (hcw.lt hk')), by omega⟩
 ·exact .inr ⟨he, hx⟩
end
theorem Src.blk {w : World} {ad : Addr} {m : Nat} {kd : IntKind} {B : List Int} (h : Src w (some ad) m kd B) (hm : 0 < m) : ad.block < w.heap.size := by
 rcases h.2 with h | ⟨b, off, hA, hb, _⟩
 ·omega
 ·cases hA; exact hb
theorem min_is {m m2 mn : Nat} (h : mn = min m m2) : (if (m2 : Int) < (m : Int) then (m2 : Int) else (m : Int)) = ((mn : Nat) : Int) := by
 subst h
 split <;> omega
/-
 The code of layer 8: common, hashes, its iterator.
-/
theorem common_c (PA PB : List Int) (A A2 : Option Addr) (m c m2 c2 : Nat) (w : World) (hsA : Src w A m .u8 PA) (hsB : Src w A2 m2 .u8 PB) (hmc : m ≤ c) (hmc2 : m2 ≤ c2) (hcm : c ≤ 9223372036854775807) (hcm2 : c2 ≤ 9223372036854775807) (mn : Nat) (hmn : mn = min m m2) : Calls Tryz.prog 42 #[.slice A m c, .slice A2 m2 c2] w fun e w' => e = .returned (.int .i64 ((eqN PA PB) : Int)) ∧ St w [] w' := by
 have hmn1 : mn ≤ m ∧ mn ≤ m2 ∧ (mn = m ∨ mn = m2) := by omega
 refine qP (args := [.slice A m c, .slice A2 m2 c2]) Tryz.func42 rfl Tryz.ntmps42 (by simp) ?_
 refine qC [0, 1] ?_
 iterate 11 refine gx ?_
 refine qB (qA rfl) rfl (Gets.congr (Gets.min2 rfl rfl rfl) (by rw [min_is hmn])) ?_
 iterate 3 refine gx ?_
 refine qC [0, 1, 4, 5] ?_
 iterate 8 refine gx ?_
 refine qe (ι := Nat) (fun k => [(0, .slice A m c), (1, .slice A2 m2 c2), (5, .int .i64 (mn : Int)), (12, .int .i64 (mn : Int)), (13, .int .i64 (k : Int))]) (fun k => []) (fun k => mn - k) (fun k => k ≤ mn ∧ eqN PA PB = k + eqN (PA.drop (k)) (PB.drop (k))) 0 ⟨Nat.zero_le _, by simp⟩ (qL (i := 0) rfl rfl (by first | omega | (dsimp only; omega) | rfl) (by first | omega | (dsimp only; omega) | rfl) (qL (i := 1) rfl rfl (by first | omega | (dsimp only; omega) | rfl) (by first | omega | (dsimp only; omega) | rfl) (qE (i := 5) rfl (by first | omega | rfl) (qE (i := 12) rfl (by first | omega | rfl) (qE (i := 13) rfl (by first | omega | rfl) (qK)))))) (fun w h => h) (fun k hC0 => ?_)
 obtain ⟨hC0, hE⟩ := hC0
 iterate 6 refine gx ?_
 refine qQ rfl (fun hq0 => ?_) (fun hq0 => ?_)
 ·obtain ⟨b, off, hAe, hb, hr⟩ := hsA.2.resolve_left (by omega)
  obtain ⟨b2, off2, hAe2, hb2, hr2⟩ := hsB.2.resolve_left (by omega)
  subst hAe; subst hAe2
  iterate 11 refine gx ?_
  refine qs (by kernel_rfl) [0, 0, 0, 1, 0, 0, 0, 1, 0] rfl (by kernel_rfl) ?_
  iterate 2 refine gx ?_
  refine qG (qA rfl) rfl (fun _ => qW rfl Tryz.underlying22 size5 rfl rfl (i := k) (by omega) (by omega) (off' := (off + k)) (by omega)) ?_
  refine qX (qA rfl) rfl (qJ rfl agg5 rfl (zA hr (i := k) (by omega) (by omega) hb qF)) ?_
  iterate 2 refine gx ?_
  refine qG (qA rfl) rfl (fun _ => qW rfl Tryz.underlying22 size5 rfl rfl (i := k) (by omega) (by omega) (off' := (off2 + k)) (by omega)) ?_
  refine qX (qA rfl) rfl (qJ rfl agg5 rfl (zA hr2 (i := k) (by omega) (by omega) hb2 qF)) ?_
  iterate 3 refine gx ?_
  refine qC [0, 1, 5, 6, 12, 13, 24] ?_
  refine qQ rfl (fun c3n => ?_) (fun c3n => ?_)
  ·have c3 := c3n
   iterate 12 refine gx ?_
   exact qN rfl rfl (fun w hs => ⟨ret_i (by have l1 := hsA.1; have l2 := hsB.1; have hx := eqN_stop hE (by first | exact .inr ⟨by omega, by omega, c3⟩ | (by_cases hml : mn = m; exact .inl (.inl (by omega)); exact .inl (.inr (by omega)))); omega), hs⟩)
  ·have c3 := Classical.not_not.1 c3n
   iterate 4 refine gx ?_
   refine qB (qA rfl) rfl (qU rfl rfl rfl (r := ((k : Int) + 1)) (w64 (by omega) (by omega))) ?_
   iterate 2 refine gx ?_
   exact qc (k + 1) (by omega) ⟨by omega, eqN_go hE (by have := hsA.1; omega) (by have := hsB.1; omega) c3⟩ (qL (i := 0) rfl (by first | rfl | (congr 2; omega)) (by first | omega | (dsimp only; omega) | rfl) (by first | omega | (dsimp only; omega) | rfl) (qL (i := 1) rfl (by first | rfl | (congr 2; omega)) (by first | omega | (dsimp only; omega) | rfl) (by first | omega | (dsimp only; omega) | rfl) (qE (i := 5) rfl (by first | omega | rfl) (qE (i := 12) rfl (by first | omega | rfl) (qE (i := 13) rfl (by first | omega | rfl) (qK)))))) (fun w h => h)
 ·iterate 12 refine gx ?_
  exact qN rfl rfl (fun w hs => ⟨ret_i (by have l1 := hsA.1; have l2 := hsB.1; have hx := eqN_stop hE (by first | exact .inr ⟨by omega, by omega, c3⟩ | (by_cases hml : mn = m; exact .inl (.inl (by omega)); exact .inl (.inr (by omega)))); omega), hs⟩)
theorem hashes_c (A : Option Addr) (m c : Nat) (k : Int) (w : World) : Calls Tryz.prog 41 #[.slice A m c, .int .i64 k] w fun e w' => ∃ y : Nat × Nat, e = .returned (.func (.func 75) #[] #[.pointer (some ⟨y.1, 0, none⟩), .pointer (some ⟨y.2, 0, none⟩)]) ∧ (w.heap.size ≤ y.1 ∧ w.heap.size ≤ y.2) ∧ St w [⟨y.1, 3, [int .i64 k], 1⟩, ⟨y.2, 22, [slice A m c], 1⟩] w' := by
 refine qP (args := [.slice A m c, .int .i64 k]) Tryz.func41 rfl Tryz.ntmps41 (by simp) ?_
 refine qC [0, 1] ?_
 iterate 2 refine gx ?_
 refine TL.bx1 (fun g1 hg1 => ?_)
 refine TL.bx1 (fun g2 hg2 => ?_)
 iterate 5 refine gx ?_
 refine qB (qA rfl) rfl (Gets.makeFunc rfl rfl rfl) ?_
 iterate 4 refine gx ?_
 exact qN rfl rfl (fun w hs => ⟨(g2, g1), rfl, ⟨by assumption, by assumption⟩, hs⟩)
theorem hash_iter (ps pb b ob m c s : Nat) (B : List Int) (hBB : Bytes B) (hBl : B.length = m) (hs1 : 1 ≤ s) (hsm : s ≤ m) (hm : m ≤ 1000000) (hmc : m ≤ c) (hcm : c ≤ 9223372036854775807) (w0 : World) (hc0 : CapB w0 ps pb b ob m c s B) : IterC Fence.wide 2 Tryz.prog 75 #[.pointer (some ⟨ps, 0, none⟩), .pointer (some ⟨pb, 0, none⟩)] (fun i => #[.int .i64 (i : Int), .int .u64 (hshI (blkI B s i))]) (m - s + 1) 0 (capB ps pb b) w0 := by
 intro l J Jx W hW hJ hJx hY hJ0
 have hc : CapB W ps pb b ob m c s B := hc0.bel hW
 show CallsIn Fence.wide 2 Tryz.prog 75 #[.func (.yield l) #[] #[], .pointer (some ⟨ps, 0, none⟩), .pointer (some ⟨pb, 0, none⟩)] W _
 refine callsIn_from (args := [.func (.yield l) #[] #[], .pointer (some ⟨ps, 0, none⟩), .pointer (some ⟨pb, 0, none⟩)]) Tryz.func75 rfl Tryz.ntmps75 (by simp) ?_
 refine qC [0, 1, 2] ?_
 iterate 3 refine gx ?_
 refine qB (qA rfl) rfl (qJ rfl agg3 rfl (qp hc.fs hc.h1 qF)) ?_
 refine qB (qA rfl) rfl (qg (Gets.lss rfl rfl rfl) (by omega)) ?_
 refine gx ?_
 refine qB (qM rfl rfl rfl) rfl (qJ rfl agg3 rfl (qp hc.fs hc.h1 qF)) ?_
 refine qB (qM rfl rfl rfl) rfl (qJ rfl agg22 rfl (qp hc.fx hc.h2 qF)) ?_
 refine gx ?_
 refine qB (qM rfl rfl rfl) rfl (qg (Gets.gtr rfl rfl rfl) (by omega)) ?_
 iterate 3 refine gx ?_
 refine qC [0, 1, 2, 16] ?_
 refine ql rfl ?_
 iterate 3 refine gx ?_
 have hb0 := hBB.get 0
 refine gx ?_
 refine qB (qA rfl) rfl (qJ rfl agg22 rfl (qp hc.fx hc.h2 qF)) ?_
 refine qB (qA rfl) rfl (qW rfl Tryz.underlying22 size5 rfl rfl (i := 0) (by rfl) (by omega) (off' := ob) (by omega)) ?_
 refine qB (qA rfl) rfl (qJ rfl agg5 rfl (zA hc.fr (i := 0) (by omega) (by omega) hc.h3 qF)) ?_
 refine qB (qA rfl) rfl (qv rfl Tryz.underlying5 Tryz.underlying73 rfl (r := (B.getD 0 0)) (wu64 rfl (by omega))) ?_
 iterate 4 refine gx ?_
 refine qC [0, 1, 2, 4, 5] ?_
 iterate 3 refine gx ?_
 refine qB (qA rfl) rfl (qJ rfl agg22 rfl (qp hc.fx hc.h2 qF)) ?_
 refine qB (qA rfl) rfl (qJ rfl agg3 rfl (qp hc.fs hc.h1 qF)) ?_
 refine qB (qA rfl) rfl (zG rfl Tryz.underlying22 size5 rfl (bnd.at_ (l := 1) rfl rfl) (bnd.at_ (l := s) rfl (by omega)) (by omega) (by omega) rfl (ln := (s - 1)) (cp := (c - 1)) (by omega) (by omega)) ?_
 iterate 4 refine gx ?_
 refine qC [0, 1, 2, 4, 5, 23, 24, 25] ?_
 refine gx ?_
 refine qe (ι := Nat) (fun i => [(0, .func (.yield l) #[] #[]), (1, .pointer (some ⟨ps, 0, none⟩)), (2, .pointer (some ⟨pb, 0, none⟩)), (4, .int .u64 (hshI (B.take (i + 1)))), (5, .int .u64 (pwI i)), (23, .slice (cutA (some ⟨b, ob, none⟩) c 1 1) (s - 1) (c - 1)), (24, .int .i64 ((s : Int) - 1)), (25, .int .i64 (i : Int))]) (fun i => []) (fun i => s - i) (fun i => i + 1 ≤ s) 0 (by omega) (qH (i := 0) rfl (qH (i := 1) rfl (qH (i := 2) rfl (qE (i := 4) rfl ((hsh_zero hBB (by omega)).symm) (qE (i := 5) rfl (pw_zero.symm) (qL (i := 23) rfl rfl (by first | omega | (dsimp only; omega) | rfl) (by first | omega | (dsimp only; omega) | rfl) (qE (i := 24) rfl (by first | omega | rfl) (qE (i := 25) rfl (by first | omega | rfl) (qK))))))))) (fun w h => h) (fun i hC0 => ?_)
 iterate 5 refine gx ?_
 refine qC [0, 1, 2, 4, 5, 23, 24, 25, 26] ?_
 refine gx ?_
 refine qQ rfl (fun hq1 => ?_) (fun hq1 => ?_)
 ·have hb1 := hBB.get (i + 1)
  rw [show cutA (some ⟨b, ob, none⟩) c 1 1 = some ⟨b, ob + 1, none⟩ from cut_is (by omega) (by omega)]
  iterate 2 refine gx ?_
  refine qC [0, 1, 2, 4, 5, 23, 24, 25] ?_
  iterate 4 refine gx ?_
  refine qB (qA rfl) rfl (qW rfl Tryz.underlying22 size5 rfl rfl (i := i) (by omega) (by omega) (off' := (ob + i + 1)) (by omega)) ?_
  refine qB (qA rfl) rfl (qJ rfl agg5 rfl (zA hc.fr (i := (i + 1)) (by omega) (by omega) hc.h3 qF)) ?_
  iterate 3 refine gx ?_
  refine qC [0, 1, 2, 4, 5, 7, 23, 24, 25] ?_
  iterate 3 refine gx ?_
  refine qB (qA rfl) rfl (Gets.mulU rfl rfl rfl) ?_
  refine gx ?_
  refine qB (qA rfl) rfl (qv rfl Tryz.underlying5 Tryz.underlying73 rfl (r := (B.getD (i + 1) 0)) (wu64 rfl (by omega))) ?_
  refine qB (qA rfl) rfl (qj rfl rfl rfl) ?_
  iterate 3 refine gx ?_
  refine qC [0, 1, 2, 4, 5, 23, 24, 25] ?_
  iterate 2 refine gx ?_
  refine qB (qA rfl) rfl (Gets.mulU rfl rfl rfl) ?_
  iterate 4 refine gx ?_
  refine qC [0, 1, 2, 4, 5, 23, 24, 25] ?_
  refine gx ?_
  refine qB (qA rfl) rfl (qU rfl rfl rfl (r := ((i : Int) + 1)) (w64 (by omega) (by omega))) ?_
  iterate 2 refine gx ?_
  exact qc (i + 1) (by omega) (by omega) (qH (i := 0) rfl (qH (i := 1) rfl (qH (i := 2) rfl (qE (i := 4) rfl (hsh_first (B := B) (i := i + 1) (by omega)) (qE (i := 5) rfl (pw_succ i) (qL (i := 23) rfl (by first | rfl | (congr 2; omega)) (by first | omega | (dsimp only; omega) | rfl) (by first | omega | (dsimp only; omega) | rfl) (qE (i := 24) rfl (by first | omega | rfl) (qE (i := 25) rfl (by first | omega | rfl) (qK))))))))) (fun w h => h)
 ·iterate 5 refine gx ?_
  refine qC [0, 1, 2, 4, 5] ?_
  iterate 6 refine gx ?_
  refine TC.loopW (ι := Nat × World) (fun y => y.2) (fun y => [(0, .func (.yield l) #[] #[]), (1, .pointer (some ⟨ps, 0, none⟩)), (2, .pointer (some ⟨pb, 0, none⟩)), (4, .int .u64 (hshI (blkI B s y.1))), (5, .int .u64 (pwI (s - 1))), (8, .int .i64 (y.1 : Int))]) (fun y => []) (fun y => m - y.1) (fun y => y.1 < m - s + 1 ∧ J y.1 y.2 ∧ CapB y.2 ps pb b ob m c s B ∧ W.heap.size ≤ y.2.heap.size) (0, W) ⟨by show 0 < m - s + 1; omega, hJ0, hc, Nat.le_refl _⟩ (qH (i := 0) rfl (qH (i := 1) rfl (qH (i := 2) rfl (qE (i := 4) rfl (by rw [show blkI B s (0, W).1 = B.take s from rfl, show i + 1 = s by omega]) (qE (i := 5) rfl (by rw [show s - 1 = i by omega]) (qE (i := 8) rfl rfl (qK))))))) (fun w h => h) (fun y hC1 => ?_)
  obtain ⟨k, v⟩ := y
  obtain ⟨hk, hj, hc, hsz⟩ := hC1
  dsimp only at hk hj hc hsz
  change TC _ _ _ v _ _ _
  iterate 6 refine gx ?_
  refine TL.yield rfl (qA rfl) rfl rfl rfl rfl (T := fun v1 => J (k + 1) v1 ∧ CapB v1 ps pb b ob m c s B ∧ W.heap.size ≤ v1.heap.size) (U := fun v1 => Jx (k + 1) v1) (fun w hs => h_yield hJ hY (by omega) hj hc hsz hs (by intro e he; cases he)) (fun v1 hT => ?_) (fun v1 hU => ?_)
  ·obtain ⟨hj, hc, hsz⟩ := hT
   iterate 2 refine gx ?_
   refine qB (qM rfl rfl rfl) rfl (qJ rfl agg3 rfl (qp hc.fs hc.h1 qF)) ?_
   refine qB (qM rfl rfl rfl) rfl (qU rfl rfl rfl (r := ((k : Int) + (s : Int))) (w64 (by omega) (by omega))) ?_
   refine qB (qM rfl rfl rfl) rfl (qJ rfl agg22 rfl (qp hc.fx hc.h2 qF)) ?_
   iterate 5 refine gx ?_
   refine qC [0, 1, 2, 4, 5, 8, 48] ?_
   refine qQ rfl (fun hq2 => ?_) (fun hq2 => ?_)
   ·have hb2 := hBB.get k
    have hb3 := hBB.get (k + s)
    iterate 4 refine gx ?_
    refine qs (hok := ⟨fun ⟨_, _, h⟩ => (by obtain ⟨⟨_, hv⟩, _⟩ := h; cases hv), by kernel_rfl⟩) (by kernel_rfl) [0, 1, 0, 0, 1, 1, 0, 0, 0, 0, 1, 0, 1, 0, 0, 1, 1, 0, 0] rfl (by kernel_rfl) ?_
    refine gx ?_
    refine qX (qA rfl) rfl (qJ rfl agg22 rfl (qp hc.fx hc.h2 qF)) ?_
    refine gx ?_
    refine qG (qA rfl) rfl (fun _ => qW rfl Tryz.underlying22 size5 rfl rfl (i := k) (by omega) (by omega) (off' := (ob + k)) (by omega)) ?_
    refine qX (qA rfl) rfl (qJ rfl agg5 rfl (zA hc.fr (i := k) (by omega) (by omega) hc.h3 qF)) ?_
    refine qX (qA rfl) rfl (qv rfl Tryz.underlying5 Tryz.underlying73 rfl (r := (B.getD k 0)) (wu64 rfl (by omega))) ?_
    refine gx ?_
    refine qG (qA rfl) rfl (fun _ => Gets.mulU rfl rfl rfl) ?_
    refine qG (qA rfl) rfl (fun _ => Gets.subU rfl rfl rfl) ?_
    refine qG (qA rfl) rfl (fun _ => Gets.mulU rfl rfl rfl) ?_
    refine qX (qA rfl) rfl (qJ rfl agg22 rfl (qp hc.fx hc.h2 qF)) ?_
    refine gx ?_
    refine qX (qA rfl) rfl (qJ rfl agg3 rfl (qp hc.fs hc.h1 qF)) ?_
    refine qG (qA rfl) rfl (fun _ => qU rfl rfl rfl (r := ((k : Int) + (s : Int))) (w64 (by omega) (by omega))) ?_
    refine qG (qA rfl) rfl (fun _ => qW rfl Tryz.underlying22 size5 rfl rfl (i := (k + s)) (by omega) (by omega) (off' := (ob + k + s)) (by omega)) ?_
    refine qX (qA rfl) rfl (qJ rfl agg5 rfl (zA hc.fr (i := (k + s)) (by omega) (by omega) hc.h3 qF)) ?_
    refine qX (qA rfl) rfl (qv rfl Tryz.underlying5 Tryz.underlying73 rfl (r := (B.getD (k + s) 0)) (wu64 rfl (by omega))) ?_
    refine qG (qA rfl) rfl (fun _ => qj rfl rfl rfl) ?_
    iterate 4 refine gx ?_
    refine qC [0, 1, 2, 4, 5, 8] ?_
    iterate 2 refine gx ?_
    refine qB (qA rfl) rfl (qU rfl rfl rfl (r := ((k : Int) + 1)) (w64 (by omega) (by omega))) ?_
    iterate 2 refine gx ?_
    exact TE.backW (k + 1, v1) (by show m - (k + 1) < m - k; omega) ⟨(by show k + 1 < m - s + 1; omega), hj, hc, hsz⟩ (qH (i := 0) rfl (qH (i := 1) rfl (qH (i := 2) rfl (qE (i := 4) rfl (hsh_next (B := B) (by omega) (by omega)) (qE (i := 5) rfl (by first | rfl | omega) (qE (i := 8) rfl rfl (qK))))))) (fun w h => h)
   ·iterate 4 refine gx ?_
    exact TE.end0 rfl (fun w hs => ⟨⟨_, rfl⟩, .inl (hJ _ _ _ (show J (m - s + 1) v1 from by rw [show m - s + 1 = k + 1 by omega]; exact hj) (St.beside0 hs (by intro e he; cases he)))⟩)
  ·iterate 10 refine gx ?_
   refine qC [0, 1, 2, 4, 5, 8, 48] ?_
   refine ql rfl ?_
   iterate 4 refine gx ?_
   exact TE.end0 rfl (fun w hs => ⟨⟨_, rfl⟩, .inr ⟨k, by omega, hJx _ _ _ hU (St.beside0 hs (by intro e he; cases he))⟩⟩)
theorem hash_iterN0 (ps pb : Nat) (A : Option Addr) (m c : Nat) (k : Int) (enc : Nat → Array Value) (Cap : Nat → Prop) (hm : m ≤ 1000000) (hk : k < 1) (w0 : World) (hcs0 : w0.cell? ⟨ps, 0, none⟩ = some (.int .i64 k)) (hcb0 : w0.cell? ⟨pb, 0, none⟩ = some (.slice A m c)) (hpl0 : ps < w0.heap.size) (hbl0 : pb < w0.heap.size) : IterC Fence.wide 2 Tryz.prog 75 #[.pointer (some ⟨ps, 0, none⟩), .pointer (some ⟨pb, 0, none⟩)] enc 0 0 Cap w0 := by
 intro l J Jx W hW hJ hJx hY hJ0
 have hcs := (World.cell?_of_block (w := w0) (hW.block ps hpl0)).trans hcs0
 have hcb := (World.cell?_of_block (w := w0) (hW.block pb hbl0)).trans hcb0
 have hpl := Nat.lt_of_lt_of_le hpl0 hW.size
 have hbl := Nat.lt_of_lt_of_le hbl0 hW.size
 show CallsIn Fence.wide 2 Tryz.prog 75 #[.func (.yield l) #[] #[], .pointer (some ⟨ps, 0, none⟩), .pointer (some ⟨pb, 0, none⟩)] W _
 refine callsIn_from (args := [.func (.yield l) #[] #[], .pointer (some ⟨ps, 0, none⟩), .pointer (some ⟨pb, 0, none⟩)]) Tryz.func75 rfl Tryz.ntmps75 (by simp) ?_
 refine qC [0, 1, 2] ?_
 iterate 3 refine gx ?_
 refine qB (qA rfl) rfl (qJ rfl agg3 rfl (qp hcs hpl qF)) ?_
 refine qB (qA rfl) rfl (qi (Gets.lss rfl rfl rfl) hk) ?_
 iterate 8 refine gx ?_
 refine qC [0, 1, 2, 16] ?_
 refine qq rfl ?_
 iterate 2 refine gx ?_
 exact TE.ret0 rfl (fun w hs => ⟨⟨_, rfl⟩, .inl (hJ _ _ _ hJ0 (St.beside0 hs (by intro e he; cases he)))⟩)
theorem hash_iterN1 (ps pb : Nat) (A : Option Addr) (m c : Nat) (k : Int) (enc : Nat → Array Value) (Cap : Nat → Prop) (hm : m ≤ 1000000) (hk0 : ¬ k < 1) (hk : (m : Int) < k) (w0 : World) (hcs0 : w0.cell? ⟨ps, 0, none⟩ = some (.int .i64 k)) (hcb0 : w0.cell? ⟨pb, 0, none⟩ = some (.slice A m c)) (hpl0 : ps < w0.heap.size) (hbl0 : pb < w0.heap.size) : IterC Fence.wide 2 Tryz.prog 75 #[.pointer (some ⟨ps, 0, none⟩), .pointer (some ⟨pb, 0, none⟩)] enc 0 0 Cap w0 := by
 intro l J Jx W hW hJ hJx hY hJ0
 have hcs := (World.cell?_of_block (w := w0) (hW.block ps hpl0)).trans hcs0
 have hcb := (World.cell?_of_block (w := w0) (hW.block pb hbl0)).trans hcb0
 have hpl := Nat.lt_of_lt_of_le hpl0 hW.size
 have hbl := Nat.lt_of_lt_of_le hbl0 hW.size
 show CallsIn Fence.wide 2 Tryz.prog 75 #[.func (.yield l) #[] #[], .pointer (some ⟨ps, 0, none⟩), .pointer (some ⟨pb, 0, none⟩)] W _
 refine callsIn_from (args := [.func (.yield l) #[] #[], .pointer (some ⟨ps, 0, none⟩), .pointer (some ⟨pb, 0, none⟩)]) Tryz.func75 rfl Tryz.ntmps75 (by simp) ?_
 refine qC [0, 1, 2] ?_
 iterate 3 refine gx ?_
 refine qB (qA rfl) rfl (qJ rfl agg3 rfl (qp hcs hpl qF)) ?_
 refine qB (qA rfl) rfl (qg (Gets.lss rfl rfl rfl) hk0) ?_
 refine gx ?_
 refine qB (qM rfl rfl rfl) rfl (qJ rfl agg3 rfl (qp hcs hpl qF)) ?_
 refine qB (qM rfl rfl rfl) rfl (qJ rfl agg22 rfl (qp hcb hbl qF)) ?_
 refine gx ?_
 refine qB (qM rfl rfl rfl) rfl (qi (Gets.gtr rfl rfl rfl) hk) ?_
 iterate 3 refine gx ?_
 refine qC [0, 1, 2, 16] ?_
 refine qq rfl ?_
 iterate 2 refine gx ?_
 exact TE.ret0 rfl (fun w hs => ⟨⟨_, rfl⟩, .inl (hJ _ _ _ hJ0 (St.beside0 hs (by intro e he; cases he)))⟩)
/-
 What the making of a delta asks of the engine: calls through function values in regions that draw their order, calls behind which the base world moves, a map that is written in the rounds of a range over a function, appends onto a caller's slice.
-/
section
variable {P : Program} {ops : Array Oper} {Q : Exit → Act → World → Prop} {n : Sz} {w0 v W w : World} {L L' : List (Nat × Value)} {H HB : List Ent}
variable {o : Oper} {rest : List Oper} {u : Value} {x y z : Operand} {t t' e k : TypeId} {kq : IntKind} {ks : List Nat} {ex : Exit}
theorem wp_mixBn {md0 : Md} {id : Nat} {l : List Oper} {a : Act} {w : World} {S B : World → Prop} (hmix : P.follows .mixedOrders = true) (ks p : List Nat) (ho : mixOKp9 .any l.toArray ks p = true)
  (hB : ∀ w, S w → B w) (hS : S w.drew) (h : MixMB P l.toArray B (Q .normal) (pickK9 ks p) (pickO9 l p) a S) (hok : OkR md0 l.toArray Q) : wpn md0 P (Code.region id l.toArray true) Q a w := by
 refine wpnFrom_start hok hmix ?_
 intro listed hl
 have hsz : l.toArray.size = l.length := by simp
 obtain ⟨hns, hlen, hall, hself, hpw⟩ := mixOKp_spec9 ho
 have := wpAny_of_mixB (P := P) (Q := Q) (ks := ks) hns hself l.length p listed a w.drew S (hlen.trans hsz) hpw (fun i hi => hi)
  ⟨hl.1, fun q hq => by
   rw [hl.2.1 q hq]
   have := hall q hq
   simp [this], hl.2.2⟩ (MixMB.seqp p a S (fun i hi => by rw [← hsz]; exact (hself i hi).1) h) hB hS
 rw [hsz, Nat.sub_zero]
 exact this
theorem TC.mixBn {id : Nat} {l : List Oper} (hmix : P.follows .mixedOrders = true) (ks p : List Nat) (ho : mixOKp9 .any l.toArray ks p = true) (h : TP P l.toArray Q n w0 HB (pickK9 ks p) (pickO9 l p) L H) (hok : OkR n.md l.toArray Q := by exact trivial) : TC P Q n w0 (.region id l.toArray true) L (HB ++ H) :=
 fun a w hf hs => wp_mixBn hmix ks p ho (fun w h => ⟨H, h⟩) hs.drew (h a hf) hok
theorem TM.call0F {f : FuncId} {tt : Nat} {lb : List Value} {xs : List Operand} {ts : Array TypeId} {vs : List Value} {v : Value} (hg : Wants n ops L o) (hi : inside n o.dst = true) (h : Enters P f)
  (ho : o.op = .call { callee := .value (.tmp tt), args := xs.toArray, argTypes := ts }) (ht : look L tt = some (.func (.func f) #[] lb.toArray)) (hx : evs L xs = some vs)
  (hc : ∀ w, St w0 H w → Calls P f (vs ++ lb).toArray w fun e w' => e = .returned v ∧ St w [] w')
  (hr : TM P ops Q n w0 ks rest (put L o.dst v) H) : TM P ops Q n w0 (1 :: ks) (o :: rest) L H :=
 fun a hf => ⟨v, St w0 H, ⟨.inl ⟨hg a hf, fun w hS => by rw [run_enterF h ho hf ht hx]; exact (hc w hS).mono fun e w' ⟨he, hw⟩ => ⟨he, hS.call' hw⟩⟩, rfl⟩, hr _ (hf.put o.dst v hi)⟩
theorem TP.lastW {i g s : Nat} {ent : Ent} {vs : List Value} (hg : Wants n ops L o) (hd : o.dst = none) (ho : o.op = .store t x y) (hsz : (P.info? t).map (·.size) = some s)
  (hx : ev L x = some (.pointer (some ⟨g, 0, none⟩))) (hy : ev L y = some (.agg vs.toArray)) (hl : vs.length = s) (h1 : ∀ u ∈ vs, u.oneCell' = true) (hi : (HB ++ H)[i]? = some ent) (he : ent.g = g) (hoff : ent.cs.length = s)
  {H' : List Ent} (hH : (HB ++ H).set i ⟨ent.g, ent.t, vs, ent.tot⟩ = H') (hr : TE Q .normal n w0 L H') : TP P ops Q n w0 HB [7] [o] L H :=
 fun a hf => .inr (.inr (.inl ⟨rfl, St w0 H', ⟨hd, fun w hs => ⟨by
  have h2 : ent.cs.drop (0 + vs.length) = [] := List.drop_of_length_le (by omega)
  obtain ⟨w', hrun, hs'⟩ := run_storeCells (P := P) (i := i) (g := g) (ent := ent) (off := 0) vs 0 (HB ++ H) ent w he hs hi h1 (by simp; omega)
  refine ⟨w', ?_, ?_⟩
  ·simp only [execOp, ho, hf.eval hx, hf.eval hy]
   refine run_unit ?_
   simp only [Instr.storeAt, Instr.sureAddr, storeVar, Sem.run_bind, Sem.run_pure, Result.andThen_ok, run_size hsz]
   rw [if_neg (fun h => h (by simpa [Value.cells] using hl))]
   simpa [Value.cells] using hrun
  ·rw [← hH]
   rw [Nat.zero_add] at h2
   simpa [h2] using hs', hg a hf⟩⟩, fun hne => absurd rfl hne, fun w hs => hr a w hf hs⟩))
theorem TL.callB {ι : Type} {f : FuncId} {xs : List Operand} {ts : Array TypeId} {vs : List Value} {V : ι → Value} {R : ι → World → Prop} (hg : Wants n ops L o) (hi : inside n o.dst = true) (h : Enters P f)
  (ho : o.op = .call { callee := .value (.func f), args := xs.toArray, argTypes := ts }) (hx : evs L xs = some vs)
  (hc : ∀ w, St w0 H w → Calls P f vs.toArray w fun e w' => ∃ i, e = .returned (V i) ∧ R i w' ∧ St w0 H w')
  (hr : ∀ i w1, R i w1 → St w0 H w1 → TL P ops Q n w1 rest (put L o.dst (V i)) H) : TL P ops Q n w0 (o :: rest) L H :=
 fun a w hf hs => wpL_wants hg.nd (hg a hf) fun K hK => by
  unfold Oper.wp; rw [run_enter h ho hf hx]
  refine (hc w hs).mono ?_
  rintro e w' ⟨i, rfl, hR, hs'⟩
  exact hK _ _ (hr i w' hR hs' _ w' (hf.put o.dst _ hi) hs'.self)
theorem St.rebase (h1 : St w0 [] v) (h2 : St v H w) (hH : ∀ e ∈ H, w0.heap.size ≤ e.g) : St w0 H w :=
 ⟨h2.os.trans h1.os, h2.tape.trans h1.tape, h2.output.trans h1.output, Nat.le_trans h1.size h2.size, h2.has,
  fun b hb hne => (h2.old b (Nat.lt_of_lt_of_le hb h1.size) hne).trans (h1.old b hb (by simp)), h2.apart⟩
theorem TL.updH {es : Array MapEntry} {b c : Nat} {q : Int} (hM : v.heap[b]? = some (.map es c)) (hg : Wants n ops L o) (hd : o.dst = none) (ho : o.op = .mapUpdate t x y z) (h1 : P.underlying t = some (.map k e)) (hk : P.underlying k = some (.int kq))
  (hx : ev L x = some (.map (some b))) (hy : ev L y = some (.int kq q)) (hz : ev L z = some u) (hfind : Instr.findNow (.int kq) (.int kq q) es.toList 0 = some none)
  (hr : ∀ v2, v2.os = v.os → v2.tape = v.tape → v2.output = v.output → v.heap.size ≤ v2.heap.size → (∀ c, c < v.heap.size → c ≠ b → v2.heap[c]? = v.heap[c]?) → v2.heap[b]? = some (.map (es.push ⟨.int kq q, u, c⟩) (c + 1)) → TL P ops Q n v2 rest L []) : TL P ops Q n v (o :: rest) L [] :=
 fun a w hf hs => wpL_wants hg.nd (hg a hf) fun K hK => by
  have hb1 : b < v.heap.size := (Array.getElem?_eq_some_iff.1 hM).1
  have hbm : w.heap[b]? = some (.map es c) := (hs.old b hb1 (by simp)).trans hM
  have hlt : b < w.heap.size := Nat.lt_of_lt_of_le hb1 hs.size
  have hrun : (execOp a.eval o).run P w = .ok .skip { w with heap := w.heap.setIfInBounds b (.map (es.push ⟨.int kq q, u, c⟩) (c + 1)) } := by
   simp only [execOp, ho, hf.eval hx, hf.eval hy, hf.eval hz]
   refine run_unit ?_
   simp [Instr.mapUpdate, Sem.run_bind, run_under h1, MapKept.run_getObj_map hbm, MapKept.run_checkKey hk (k := .int kq q) (by simp [MapKept.IsKey]), MapKept.run_findKey hk hfind, MapKept.run_setObj_map _ hbm]
  unfold Oper.wp; rw [hrun]
  refine hK _ _ ?_
  rw [hd]
  refine hr { w with heap := w.heap.setIfInBounds b (.map (es.push ⟨.int kq q, u, c⟩) (c + 1)) } hs.os hs.tape hs.output (by simpa using hs.size) (fun i hi hne => ?_) (by simp [hlt]) a _ hf (zE _)
  have h2 := hs.old i hi (by simp)
  simp only [Array.getElem?_setIfInBounds]
  rw [if_neg (fun h => hne h.symm)]
  exact h2
theorem TE.roundM {sz : Nat} {Ks : Nat → Prop} {M1 : World → Prop} (h : ∀ w, St w0 H w → M1 w ∧ Holds Ks v w ∧ sz ≤ w.heap.size) : TE (RoundM sz Ks v M1) .normal n w0 L H := fun a w _ hs => h w hs
theorem TE.markM {fn : Func} {R : Ending → World → Prop} {D : Nat} (M : World → Prop) (hD : W.heap[D]? = some (.deferred (some []))) (hM : ∀ u, St W [] u → M (u.putObj D (.deferred none)))
  (h : ∀ u, M u → TE (bodyPost P fn R) ex ⟨n.size, [], .plain⟩ u L []) (hex : ex = .ret ∨ ex = .normal) : TE (bodyPostM Fence.wide 2 P fn R) ex ⟨n.size, [mark D], .plain⟩ W L [] := by
 intro a w hf hs
 have hDW : D < W.heap.size := (Array.getElem?_eq_some_iff.1 hD).1
 have hDw : w.heap[D]? = some (.deferred (some [])) := (hs.old D hDW (by simp)).trans hD
 have h3 := h _ (hM w hs) { a with defers := [] } _ ⟨rfl, hf.2⟩ (zE _)
 have key : LeavesInM Fence.wide 2 P fn a.tmps R a.defers .returning w := by
  rw [hf.1]
  refine ⟨by simp, .inl ⟨D, _, rfl, run_takeDeferred hDw, ?_⟩⟩
  rcases hex with rfl | rfl
  ·exact h3.2
  ·exact h3.2
 rcases hex with rfl | rfl
 ·exact key
 ·exact key
theorem TL.appendOver {B : World} {Hc He : List Ent} {As : Option Addr} {s nn sc bytes m : Nat} {cs news : List Value} {zv v : Value} (hst : St B (Hc ++ He) w0) (hown : OwnS B.heap.size e s v nn cs He)
  (hg : Wants n ops L o) (hi' : inside n o.dst = true) (ho : o.op = .call { callee := .builtin .append, args := #[x, y], argTypes := #[t, t] })
  (h1 : P.underlying t = some (.slice e)) (hz : (P.info? e).map (fun i => (i.zero, i.size, i.bytes)) = some (some zv, s, bytes)) (hzc : zv.cells.size = s) (hs0 : 0 < s)
  (hx : ev L x = some v) (hy : ev L y = some (.slice As m sc)) (hF : Fresh w0 H) (hl : news.length = m * s) (hsrc : ∀ w, St w0 H w → SrcV w As m news) (h1c : ∀ u ∈ news, u.oneCell' = true)
  (h63 : nn + m ≤ maxLen) (hbytes : (nn + m) * bytes ≤ 140737488355328)
  (hr : ∀ v' He' w2, OwnS B.heap.size e s v' (nn + m) (cs ++ news) He' → St B ((Hc ++ H) ++ He') w2 → TL P ops Q n w2 rest (put L o.dst v') []) : TL P ops Q n w0 (o :: rest) L H :=
 fun a w hf hs => wpL_wants hg.nd (hg a hf) fun K hK => by
  have hall : St B ((Hc ++ H) ++ He) w := by
   have a1 : St B ([] ++ (Hc ++ He)) w0 := hst
   have := St.over a1 hs (fun e he d hd => by
    have h1 := hF e he
    have h2 := (hst.has d hd).lt
    omega) (fun d hd => by cases hd)
   refine this.perm ?_
   rw [List.append_assoc]
   exact List.perm_append_comm_assoc H Hc He
  obtain ⟨v', w', He', hrun, hown', hst'⟩ := run_appendS (P := P) (t := t) (ty := o.type) (sc := sc) h1 hz hzc hs0 hown hall (Nat.le_refl _) (Nat.le_refl _) hl (hsrc w hs) h1c h63 hbytes (fun _ => rfl)
  have hrun' : (execOp a.eval o).run P w = .ok (.value v') w' := by
   simp only [execOp, ho, resolve, invoke, builtin, Sem.run_bind, Sem.run_pure, Result.andThen_ok, List.map_toArray, List.map_cons, List.map_nil, hf.eval hx, hf.eval hy, hrun]
  unfold Oper.wp; rw [hrun']
  exact hK _ _ (hr v' He' w' hown' hst' _ w' (hf.put o.dst _ hi') (zE w'))
def occI (B P : List Int) (s : Int) : Int := match matchI B P s with
 | some q => (q : Int)
 | none => -1
theorem occ_no {B P : List Int} {s : Int} (h : matchI B P s = none) : occI B P s = -1 := by unfold occI; rw [h]
theorem occ_yes {B P : List Int} {s : Int} {q : Nat} (h : matchI B P s = some q) : occI B P s = q := by unfold occI; rw [h]
theorem rowI_drop {w : World} {b o n l : Nat} {kd : IntKind} {B : List Int} (h : RowI w b o n kd B) (hl : l ≤ n) : RowI w b (o + l) (n - l) kd (B.drop l) := fun j hj => by
 have := h (l + j) (by omega)
 rw [Lib.getD_drop, Nat.add_assoc]; exact this
structure MInv (w0 : World) (H : List Ent) (mb : Nat) (B : List Int) (s lo i : Nat) (W : World) : Prop where
 st : St w0 H W
 mp : MapAt W mb B s i
 lt : ∀ e ∈ H, e.g < lo
 ml : mb < lo
 nm : w0.heap.size ≤ mb
 ne : ∀ e ∈ H, e.g ≠ mb
structure FindC (w : World) (gm gf mb : Nat) (A : Option Addr) (m c : Nat) (B : List Int) (k : Int) : Prop where
 cm : w.cell? ⟨gm, 0, none⟩ = some (.map (some mb))
 cf : w.cell? ⟨gf, 0, none⟩ = some (.slice A m c)
 mp : MapAt w mb B k.toNat (cntH m k)
 lm : gm < w.heap.size
 lf : gf < w.heap.size
theorem FindC.at_ {gm gf mb m c : Nat} {A : Option Addr} {B : List Int} {k : Int} (h : FindC w0 gm gf mb A m c B k) (hs : St w0 H w) (hne : ∀ e ∈ H, e.g ≠ gm ∧ e.g ≠ gf ∧ e.g ≠ mb) : FindC w gm gf mb A m c B k :=
 ⟨(hs.old_cell (ad := ⟨gm, 0, none⟩) h.lm (fun e he => (hne e he).1)).trans h.cm, (hs.old_cell (ad := ⟨gf, 0, none⟩) h.lf (fun e he => (hne e he).2.1)).trans h.cf, h.mp.at_ hs (fun e he => (hne e he).2.2), Nat.lt_of_lt_of_le h.lm hs.size, Nat.lt_of_lt_of_le h.lf hs.size⟩
theorem Src.dropS {w : World} {b o m q : Nat} {kd : IntKind} {B : List Int} (h : Src w (some ⟨b, o, none⟩) m kd B) (hq : q ≤ m) : Src w (some ⟨b, o + q, none⟩) (m - q) kd (B.drop q) := by
 refine ⟨by rw [List.length_drop, h.1], ?_⟩
 rcases h.2 with h2 | ⟨b', o', hA, hb, hr⟩
 ·exact .inl (by omega)
 ·cases hA; exact .inr ⟨b, o + q, rfl, hb, rowI_drop hr hq⟩
theorem occ_cases (B P : List Int) (s : Int) : (occI B P s = -1 ∧ matchI B P s = none) ∨ ∃ q : Nat, occI B P s = q ∧ matchI B P s = some q := by
 cases h : matchI B P s with
 | none => exact .inl ⟨occ_no h, rfl⟩
 | some q => exact .inr ⟨q, occ_yes h, rfl⟩
def capA (ps pb : Nat) (A : Option Addr) (m : Nat) (k : Nat) : Prop := k = ps ∨ k = pb ∨ (0 < m ∧ ∃ a, A = some a ∧ k = a.block)
theorem capA_some {ps pb b ob m : Nat} (hm : 0 < m) : capA ps pb (some ⟨b, ob, none⟩) m = capB ps pb b := by
 funext k
 apply propext
 unfold capA capB
 constructor
 ·rintro (h | h | ⟨_, a, ha, h⟩)
  ·exact .inl h
  ·exact .inr (.inl h)
  ·cases ha; exact .inr (.inr h)
 ·rintro (h | h | h)
  ·exact .inl h
  ·exact .inr (.inl h)
  ·exact .inr (.inr ⟨hm, _, rfl, h⟩)
section
variable {mb s lo i c : Nat} {B : List Int}
theorem MInv.start {wm : World} (h : St wm H w) (hM : wm.heap[mb]? = some (.map #[] 0)) (hne : ∀ e ∈ H, e.g ≠ mb) (hb : w0.heap.size ≤ mb) (hw : St w0 [] wm) (hH : ∀ e ∈ H, w0.heap.size ≤ e.g) : MInv w0 H mb B s w.heap.size 0 w :=
 ⟨hw.rebase h hH, ⟨#[], 0, (h.old mb (Array.getElem?_eq_some_iff.1 hM).1 hne).trans hM, MapE.zero B s⟩, fun e he => (h.has e he).lt, Nat.lt_of_lt_of_le (Array.getElem?_eq_some_iff.1 hM).1 h.size, hb, hne⟩
theorem MInv.beside {A B' : World} (h : MInv w0 H mb B s lo i A) (hb : Beside lo (lo + 2 + c) A B') : MInv w0 H mb B s lo i B' :=
 ⟨h.st.besides hb (fun e he => .inl (h.lt e he)) (Nat.le_trans h.nm (Nat.le_of_lt h.ml)), h.mp.of_block (hb.block mb h.mp.lt (by have := h.ml; omega)), h.lt, h.ml, h.nm, h.ne⟩
theorem MInv.call {W' : World} (h : MInv w0 H mb B s lo i W) (hs : St W [] W') : MInv w0 H mb B s lo i W' :=
 ⟨h.st.call' hs, h.mp.at_ hs (by simp), h.lt, h.ml, h.nm, h.ne⟩
theorem MInv.next (h : MInv w0 H mb B s lo i W) (hf : firstH B s i (hshI (blkI B s i)) ≠ none) : MInv w0 H mb B s lo (i + 1) W := by
 obtain ⟨es, cc, h1, h2⟩ := h.mp
 exact ⟨h.st, ⟨es, cc, h1, h2.same hf⟩, h.lt, h.ml, h.nm, h.ne⟩
theorem MInv.put {es : Array MapEntry} {cc : Nat} {v2 : World} (h : MInv w0 H mb B s lo i v) (hme : MapE es B s i) (hf : firstH B s i (hshI (blkI B s i)) = none) (q1 : v2.os = v.os) (q2 : v2.tape = v.tape) (q3 : v2.output = v.output) (q4 : v.heap.size ≤ v2.heap.size)
  (q5 : ∀ c, c < v.heap.size → c ≠ mb → v2.heap[c]? = v.heap[c]?) (q6 : v2.heap[mb]? = some (.map (es.push ⟨.int .u64 (hshI (blkI B s i)), .int .i64 (i : Int), cc⟩) (cc + 1))) : MInv w0 H mb B s lo (i + 1) v2 :=
 ⟨⟨q1.trans h.st.os, q2.trans h.st.tape, q3.trans h.st.output, Nat.le_trans h.st.size q4, fun e he => (h.st.has e he).of_block (q5 _ (h.st.has e he).lt (h.ne e he)),
  fun b hb hne => (q5 b (Nat.lt_of_lt_of_le hb h.st.size) (by have := h.nm; omega)).trans (h.st.old b hb hne), h.st.apart⟩, ⟨_, _, q6, hme.push hf⟩, h.lt, h.ml, h.nm, h.ne⟩
theorem MInv.end_ {u : World} {ob : Obj} (h : MInv w0 H mb B s lo i W) (hs : St W [] u) : St w0 H (u.putObj lo ob) ∧ MapAt (u.putObj lo ob) mb B s i := by
 have h1 := h.call hs
 have hne : ∀ e ∈ H, e.g ≠ lo := fun e he => by have := h.lt e he; omega
 refine ⟨⟨h1.st.os, h1.st.tape, h1.st.output, by simpa using h1.st.size, fun e he => (h1.st.has e he).of_block (World.putObj_heap_other (hne e he)),
  fun b hb hneb => (World.putObj_heap_other (by have := h.nm; have := h.ml; omega)).trans (h1.st.old b hb hneb), h1.st.apart⟩, h1.mp.of_block (World.putObj_heap_other (by have := h.ml; omega))⟩
theorem holds_call {Ks : Nat → Prop} (hs : St v [] w) : Holds Ks v w := fun k _ hk => hs.old k hk (by simp)
theorem holds_put {Ks : Nat → Prop} {v2 : World} (hk : ∀ k, Ks k → k ≠ mb) (q4 : v.heap.size ≤ v2.heap.size) (q5 : ∀ c, c < v.heap.size → c ≠ mb → v2.heap[c]? = v.heap[c]?) (hs : St v2 [] w) : Holds Ks v w := fun k hk' hl =>
 (hs.old k (Nat.lt_of_lt_of_le hl q4) (by simp)).trans (q5 k hl (hk k hk'))
end
end
/-
 The code of layer 8: finder.
-/
theorem agg111 : (isAgg 111).run Tryz.prog = fun w => .ok false w := isAgg_no Tryz.underlying111 rfl
theorem enters41 : Enters Tryz.prog 41 := ⟨_, Tryz.func41, by kernel_rfl, by kernel_rfl⟩
theorem enters75 : Enters Tryz.prog 75 := ⟨_, Tryz.func75, by kernel_rfl, by kernel_rfl⟩
theorem size111 : (Tryz.prog.info? 111).map (·.size) = some 1 := by kernel_rfl
theorem zero111 : (Tryz.prog.info? 111).bind (·.zero) = some (.map none) := by kernel_rfl
instance : Zer Tryz.prog 111 [Value.map none] := ⟨⟨_, zero111, rfl⟩⟩
theorem hash_itC (ps pb : Nat) (A : Option Addr) (m c : Nat) (k : Int) (B : List Int) (hBB : Bytes B) (hm : m ≤ 1000000) (hmc : m ≤ c) (hcm : c ≤ 9223372036854775807) (w0 : World) (hcs : w0.cell? ⟨ps, 0, none⟩ = some (.int .i64 k)) (hcb : w0.cell? ⟨pb, 0, none⟩ = some (.slice A m c)) (hpl : ps < w0.heap.size) (hbl : pb < w0.heap.size) (hsB : Src w0 A m .u8 B) :
  IterC Fence.wide 2 Tryz.prog 75 #[.pointer (some ⟨ps, 0, none⟩), .pointer (some ⟨pb, 0, none⟩)] (fun i => #[.int .i64 (i : Int), .int .u64 (hshI (blkI B k.toNat i))]) (cntH m k) 0 (capA ps pb A m) w0 := by
 by_cases h1 : k < 1
 ·rw [cntH_no (.inl h1)]
  exact hash_iterN0 ps pb A m c k _ _ hm h1 w0 hcs hcb hpl hbl
 ·by_cases h2 : (m : Int) < k
  ·rw [cntH_no (.inr h2)]
   exact hash_iterN1 ps pb A m c k _ _ hm h1 h2 w0 hcs hcb hpl hbl
  ·obtain ⟨s, rfl⟩ : ∃ s : Nat, k = s := ⟨k.toNat, by omega⟩
   obtain ⟨b, ob, rfl, hb, hr⟩ := hsB.2.resolve_left (by omega)
   rw [cntH_yes (by omega) (by omega), Int.toNat_natCast, capA_some (by omega)]
   exact hash_iter ps pb b ob m c s B hBB hsB.1 (by omega) (by omega) hm hmc hcm w0 ⟨hcs, hcb, hr, hpl, hbl, hb⟩
theorem finder_c (A : Option Addr) (m c : Nat) (k : Int) (B : List Int) (hBB : Bytes B) (hm : m ≤ 1000000) (hmc : m ≤ c) (hcm : c ≤ 9223372036854775807) (w : World) (hsB : Src w A m .u8 B) : Calls Tryz.prog 40 #[.slice A m c, .int .i64 k] w fun e w' => ∃ y : Nat × Nat × Nat, e = .returned (.func (.func 73) #[] #[.pointer (some ⟨y.1, 0, none⟩), .pointer (some ⟨y.2.1, 0, none⟩)]) ∧ (w.heap.size ≤ y.1 ∧ w.heap.size ≤ y.2.1 ∧ w.heap.size ≤ y.2.2) ∧ St w [] w' ∧ FindC w' y.1 y.2.1 y.2.2 A m c B k := by
 refine calls_fromM (args := [.slice A m c, .int .i64 k]) Tryz.func40 rfl Tryz.ntmps40 (by simp) ?_
 refine qC [0, 1] ?_
 iterate 2 refine gx ?_
 refine TL.bx1 (fun g1 hg1 => ?_)
 iterate 5 refine gx ?_
 refine TL.makeMap (qA rfl) rfl rfl (fun wm10 mb10 hbmb10 hlmb10 hnmb10 hwmb10 hMmb10 => ?_)
 refine qb (fun g2 hg2 => ?_)
 refine qy (qA rfl) rfl rfl size111 rfl rfl rfl (i := 0) rfl rfl (by simp [] <;> omega) (cs' := [Value.map (some mb10)]) (rfl) (H' := [⟨g2, 111, [Value.map (some mb10)], 1⟩, ⟨g1, 22, [slice A m c], 1⟩]) rfl ?_
 iterate 7 refine gx ?_
 refine qr (ι := Nat × Nat) (V := fun y => .func (.func 75) #[] #[.pointer (some ⟨y.1, 0, none⟩), .pointer (some ⟨y.2, 0, none⟩)]) (R := fun y => wm10.heap.size ≤ y.1 ∧ wm10.heap.size ≤ y.2) (H' := fun y => [⟨g2, 111, [Value.map (some mb10)], 1⟩, ⟨g1, 22, [slice A m c], 1⟩, ⟨y.1, 3, [int .i64 k], 1⟩, ⟨y.2, 22, [slice A m c], 1⟩]) (qA rfl) rfl enters41 rfl rfl (fun w hs => (hashes_c A m c k w).mono fun e w' ⟨y, he, hR, hw⟩ => ⟨y, he, ⟨Nat.le_trans hs.size hR.1, Nat.le_trans hs.size hR.2⟩, st_call hs hw (fun e he => by rcases List.mem_cons.1 he with rfl | he; exact hR.1; rw [List.mem_singleton.1 he]; exact hR.2)⟩) (fun y hR => ?_)
 obtain ⟨gs, gb⟩ := y
 obtain ⟨hgs, hgb⟩ := hR
 dsimp only at hgs hgb ⊢
 iterate 2 refine gx ?_
 refine qC [2, 4, 5, 13] ?_
 refine gx ?_
 have hn2 := hnmb10 _ List.mem_cons_self
 dsimp only at hn2
 have hwB : St w [] wm10 := (hwmb10).drop (by assumption)
 have hszB := hwB.size
 have hsWm : Src wm10 A m .u8 B := hsB.at_ hwB (by simp)
 have hfr : ∀ e ∈ ([⟨g2, 111, [Value.map (some mb10)], 1⟩, ⟨g1, 22, [slice A m c], 1⟩, ⟨gs, 3, [int .i64 k], 1⟩, ⟨gb, 22, [slice A m c], 1⟩] : List Ent), w.heap.size ≤ e.g := (by intro e he; simp only [List.mem_cons, List.not_mem_nil, or_false] at he; rcases he with rfl | rfl | rfl | rfl <;> (dsimp only; omega))
 refine TC.rangeM (V1 := fun i => .int .i64 (i : Int)) (V2 := fun i => .int .u64 (hshI (blkI B k.toNat i))) (N := cntH m k) (c := 0) (Cap := capA gs gb A m) rfl rfl rfl rfl rfl enters75 (fun w hs => hash_itC gs gb A m c k B hBB hm hmc hcm w ((hs.has (⟨gs, 3, [int .i64 k], 1⟩) (by simp)).cell rfl) ((hs.has (⟨gb, 22, [slice A m c], 1⟩) (by simp)).cell rfl) (hs.has (⟨gs, 3, [int .i64 k], 1⟩) (by simp)).lt (hs.has (⟨gb, 22, [slice A m c], 1⟩) (by simp)).lt (hsB.at_ (hwB.rebase hs hfr) (fun b hb => (qD (by show g2 ≠ b; omega) (qD (by show g1 ≠ b; omega) (qD (by show gs ≠ b; omega) (qD (by show gb ≠ b; omega) qF))))))) (fun lo i W => MInv w [⟨g2, 111, [Value.map (some mb10)], 1⟩, ⟨g1, 22, [slice A m c], 1⟩, ⟨gs, 3, [int .i64 k], 1⟩, ⟨gb, 22, [slice A m c], 1⟩] mb10 B k.toNat lo i W) (fun i => [(5, .pointer (some ⟨g2, 0, none⟩)), (6, .int .i64 (i : Int)), (7, .int .u64 (hshI (blkI B k.toNat i)))]) (fun w1 h1 => MInv.start h1 hMmb10 (qD (by show g2 ≠ mb10; omega) (qD (by show g1 ≠ mb10; omega) (qD (by show gs ≠ mb10; omega) (qD (by show gb ≠ mb10; omega) qF)))) (by omega) hwB hfr) (fun lo i A B hlo h hb => h.beside hb) (fun w hs q hk => by rcases hk with h | h | ⟨hm0, ad, hA, h⟩; (rw [h]; exact (hs.has (⟨gs, 3, [int .i64 k], 1⟩) (by simp)).lt); (rw [h]; exact (hs.has (⟨gb, 22, [slice A m c], 1⟩) (by simp)).lt); (have h2 := (hsB.at_ (hwB.rebase hs hfr) (fun b hb => (qD (by show g2 ≠ b; omega) (qD (by show g1 ≠ b; omega) (qD (by show gs ≠ b; omega) (qD (by show gb ≠ b; omega) qF)))))); rw [hA] at h2; rw [h]; exact h2.blk hm0)) (fun l i v hiN => ?_) (fun l lo i v a hiN hlo hv hcl hI hfr => ?_) (fun lo W hlo hI hD => ?_)
 ·iterate 8 refine gx ?_
  exact TE.asg (qH (i := 5) rfl (qE (i := 6) rfl (by first | omega | rfl) (qE (i := 7) rfl (by first | rfl | omega) (qK))))
 ·refine (?_ : TC Tryz.prog _ _ v _ _ []) a v hfr (zE v)
  have hSt := hI.st
  obtain ⟨es, cc, hes, hme⟩ := hI.mp
  obtain ⟨j, hj⟩ := hme.2 (hshI (blkI B k.toNat i))
  have hg5 := (hSt.has (⟨g2, 111, [Value.map (some mb10)], 1⟩) (by simp))
  have hc5 := hg5.cell (o := 0) rfl
  have hl5 := hg5.lt
  have hir := hsh_range (blkI B k.toNat i)
  rcases hfx : firstH B k.toNat i (hshI (blkI B k.toNat i)) with _ | off
  ·have hnm : ∀ q, ((lo ≤ q ∧ q < lo + 2 + 0) ∨ capA gs gb A m q) → q ≠ mb10 := fun q hq => by
    rcases hq with hq | h | h | ⟨hm0, ad, hA, h⟩
    ·have := hI.ml; omega
    ·rw [h]; exact hI.ne (⟨gs, 3, [int .i64 k], 1⟩) (by simp)
    ·rw [h]; exact hI.ne (⟨gb, 22, [slice A m c], 1⟩) (by simp)
    ·have h2 := hsB; rw [hA] at h2; have := h2.blk hm0; have := hI.nm; omega
   iterate 3 refine gx ?_
   refine qB (qA rfl) rfl (qJ rfl agg111 rfl (qp hc5 hl5 qF)) ?_
   refine gx ?_
   refine qB (qA rfl) rfl (Gets.lookNo hes (by intro e he; cases he) rfl Tryz.underlying111 Tryz.underlying73 zero3 rfl rfl (by rw [hfx] at hj; exact hj)) ?_
   iterate 7 refine gx ?_
   refine qC [5, 6, 7, 9] ?_
   iterate 6 refine gx ?_
   refine qq rfl ?_
   refine gx ?_
   refine qB (qA rfl) rfl (qJ rfl agg111 rfl (qp hc5 hl5 qF)) ?_
   iterate 2 refine gx ?_
   refine TL.updH hes (qA rfl) rfl rfl Tryz.underlying111 Tryz.underlying73 rfl rfl rfl (by rw [hfx] at hj; exact hj) (fun v2 q1 q2 q3 q4 q5 q6 => ?_)
   iterate 2 refine gx ?_
   exact TE.roundM (fun w hs => ⟨(hI.put hme hfx q1 q2 q3 q4 q5 q6).call hs, holds_put (fun k hk => hnm k hk) q4 q5 hs, Nat.le_trans hv (Nat.le_trans q4 hs.size)⟩)
  ·iterate 3 refine gx ?_
   refine qB (qA rfl) rfl (qJ rfl agg111 rfl (qp hc5 hl5 qF)) ?_
   refine gx ?_
   refine qB (qA rfl) rfl (Gets.lookYes hes (by intro e he; cases he) rfl Tryz.underlying111 Tryz.underlying73 zero3 rfl rfl (by rw [hfx] at hj; exact hj)) ?_
   iterate 7 refine gx ?_
   refine qC [5, 6, 7, 9] ?_
   iterate 6 refine gx ?_
   refine ql rfl ?_
   iterate 2 refine gx ?_
   exact TE.roundM (fun w hs => ⟨(hI.next (by rw [hfx]; exact Option.some_ne_none _)).call hs, holds_call hs, Nat.le_trans hv hs.size⟩)
 ·iterate 4 refine gx ?_
  refine qB (qA rfl) rfl (Gets.makeFunc rfl rfl rfl) ?_
  iterate 4 refine gx ?_
  refine TE.markM (fun u => St w [⟨g2, 111, [Value.map (some mb10)], 1⟩, ⟨g1, 22, [slice A m c], 1⟩, ⟨gs, 3, [int .i64 k], 1⟩, ⟨gb, 22, [slice A m c], 1⟩] u ∧ MapAt u mb10 B k.toNat (cntH m k)) hD (fun u hu => hI.end_ hu) (fun u hM => ?_) (.inl rfl)
  exact qN rfl rfl (fun w2 hs2 => by have hM1 := hM.1.call' hs2; have hM2 := hM.2.at_ hs2 (by simp); exact ⟨(g2, g1, mb10), rfl, ⟨by omega, by omega, by omega⟩, zL [⟨g2, 111, [Value.map (some mb10)], 1⟩, ⟨g1, 22, [slice A m c], 1⟩, ⟨gs, 3, [int .i64 k], 1⟩, ⟨gb, 22, [slice A m c], 1⟩] (by rw [List.append_nil]; exact hM1) hfr, ⟨(hM1.has (⟨g2, 111, [Value.map (some mb10)], 1⟩) (by simp)).cell rfl, (hM1.has (⟨g1, 22, [slice A m c], 1⟩) (by simp)).cell rfl, hM2, (hM1.has (⟨g2, 111, [Value.map (some mb10)], 1⟩) (by simp)).lt, (hM1.has (⟨g1, 22, [slice A m c], 1⟩) (by simp)).lt⟩⟩)
end Go.Proofs.YtegddcklbmonfaaGreatDoor
/-
 DERIVED: THE SHELF's CONTRACTS AT THIS DUMP, IN PLAIN WORDS (tools/lay-plain.mjs out of 'YtegddcklbmonfaaGreatDoorLayI.lean', which tools/lay-shelf.mjs wrote): THE SAME DECLARATIONS UNDER THE SAME NAMES: 'import', 'namespace', 'open', 'def', 'theorem' AND NOTHING ELSE: no command of the shelf's: FOR A HAND-IN. Each laying: the table of numbers ('.._ren') and one theorem, a field a fact of the dump's own or the kernel's comparison; each contract: ONE APPLICATION.
-/
namespace Go.Proofs
open Go.Shelf
def Tryz.lays185_ren : Go.Shelf.Ren := ⟨fun | 185 => 74 | 187 => 99 | 115 => 100 | 253 => 101 | 224 => 102 | 254 => 103 | 255 => 114 | 291 => 115 | n => n, fun | 37 => 22 | 3 => 3 | 4 => 4 | 0 => 0 | 5 => 5 | 46 => 126 | 9 => 9 | 146 => 155 | 51 => 96 | n => n, fun | 1 => 1 | n => n⟩
theorem Tryz.lays185 : Go.Proofs.Lays.n185 Tryz.prog Tryz.lays185_ren := {
 mixed := by kernel_rfl
 f115 := Tryz.func100.trans (congrArg some (by kernel_rfl))
 f185 := Tryz.func74.trans (congrArg some (by kernel_rfl))
 f187 := Tryz.func99.trans (congrArg some (by kernel_rfl))
 f224 := Tryz.func102.trans (congrArg some (by kernel_rfl))
 f253 := Tryz.func101.trans (congrArg some (by kernel_rfl))
 f254 := Tryz.func103.trans (congrArg some (by kernel_rfl))
 f255 := Tryz.func114.trans (congrArg some (by kernel_rfl))
 f291 := Tryz.func115.trans (congrArg some (by kernel_rfl))
 t0 := Tryz.underlying0
 a0 := Tryz.isAgg0
 z0 := Tryz.sizeOf0
 v0 := Tryz.zeroValue0
 t3 := Tryz.underlying3
 a3 := Tryz.isAgg3
 z3 := Tryz.sizeOf3
 v3 := Tryz.zeroValue3
 t4 := Tryz.underlying4
 a4 := Tryz.isAgg4
 z4 := Tryz.sizeOf4
 v4 := Tryz.zeroValue4
 t5 := Tryz.underlying5
 a5 := Tryz.isAgg5
 z5 := Tryz.sizeOf5
 v5 := Tryz.zeroValue5
 t9 := Tryz.underlying9
 a9 := Tryz.isAgg9
 z9 := Tryz.sizeOf9
 v9 := Tryz.zeroValue9
 t37 := Tryz.underlying22
 a37 := Tryz.isAgg22
 z37 := Tryz.sizeOf22
 v37 := Tryz.zeroValue22
 t46 := Tryz.underlying126
 a46 := Tryz.isAgg126
 z46 := Tryz.sizeOf126
 v46 := Tryz.zeroValue126
 t51 := Tryz.underlying96
 a51 := Tryz.isAgg96
 z51 := Tryz.sizeOf96
 v51 := Tryz.zeroValue96
 t146 := Tryz.underlying155
 a146 := Tryz.isAgg155
 z146 := Tryz.sizeOf155
 v146 := Tryz.zeroValue155
 g1 := by kernel_rfl }
end Go.Proofs
/-
 The code of layer 8: the finder's closure.
-/
namespace Go.Proofs.YtegddcklbmonfaaGreatDoor
set_option linter.unusedVariables false
set_option linter.unusedSimpArgs false
set_option maxRecDepth 100000
set_option maxHeartbeats 2000000
open Go.Value (int slice)
open Go Go.RowKit
theorem enters74 : Enters Tryz.prog 74 := ⟨_, Tryz.func74, by kernel_rfl, by kernel_rfl⟩
theorem st_drewN {w : World} : ∀ q, St w [] (w.drewN q)
 | 0 => zE w
 | q + 1 => (st_drewN q).drew
def MaxC (w : World) : Prop := 1 < w.heap.size ∧ ∃ mx : Int, w.cell? ⟨1, 0, none⟩ = some (.int .i64 mx)
theorem MaxC.at_ {w0 w : World} {H : List Ent} (h : MaxC w0) (hs : St w0 H w) (hne : ∀ e ∈ H, e.g ≠ 1) : MaxC w := by
 obtain ⟨h1, mx, h2⟩ := h
 exact ⟨Nat.lt_of_lt_of_le h1 hs.size, mx, (hs.old_cell (ad := ⟨1, 0, none⟩) h1 hne).trans h2⟩
theorem bidx_c (b1 o1 n c1 b2 o2 k c2 : Nat) (xs ys : List Int) (w : World) (hx : xs.length = n) (hy : ys.length = k) (hB1 : Bytes xs) (hB2 : Bytes ys) (h1 : RowI w b1 o1 n .u8 xs) (h2 : RowI w b2 o2 k .u8 ys) (hnc : n ≤ c1) (hn : n ≤ 1000000) (hk : k ≤ 1000000) (hMX : MaxC w) :
  Calls Tryz.prog 74 #[.slice (some ⟨b1, o1, none⟩) n c1, .slice (some ⟨b2, o2, none⟩) k c2] w fun e w' => e = .returned (.int .i64 (Lib.index (Lib.bytesOf xs) (Lib.bytesOf ys))) ∧ St w [] w' := by
 obtain ⟨_, mx, hmx⟩ := hMX
 have hadd : ∀ b o i : Nat, (⟨b, o, none⟩ : Addr).add i = ⟨b, o + i, none⟩ := Lib.add_plain'
 have h := Any.bytes_Index_at (P := Tryz.prog) (ρ := Tryz.lays185_ren) Tryz.lays185 ⟨b1, o1, none⟩ ⟨b2, o2, none⟩ n c1 k c2 xs ys mx w hx hy (fun x hx => by have := hB1 x hx; omega) (fun x hx => by have := hB2 x hx; omega)
  (fun i hi => by rw [hadd]; exact h1 i hi) (fun i hi => by rw [hadd]; exact h2 i hi) hnc (by omega) (by omega) hmx
 refine Calls.mono (f := 74) h ?_
 rintro e w' ⟨he, q, rfl⟩
 exact ⟨he, st_drewN q⟩
theorem ffind_no (gm gf mb : Nat) (A1 : Option Addr) (m c : Nat) (B : List Int) (s : Nat) (A2 : Option Addr) (m2 c2 : Nat) (P2 : List Int) (hs1 : 1 ≤ s) (hm2 : m2 = s) (hmc : m ≤ c) (hcm : c ≤ 9223372036854775807) (hm : m ≤ 1000000) (hs2 : s ≤ 1000000) (hBB : Bytes B) (hPP : Bytes P2) (w : World) (hF : FindC w gm gf mb A1 m c B s) (hsF : Src w A1 m .u8 B) (hsP : Src w A2 m2 .u8 P2) (hMX : MaxC w) (hfx : firstH B s (cntH m s) (hshI P2) = none) : Calls Tryz.prog 73 #[.slice A2 m2 c2, .int .u64 (hshI P2), .pointer (some ⟨gm, 0, none⟩), .pointer (some ⟨gf, 0, none⟩)] w fun e w' => e = .returned (.int .i64 (occI B P2 (s : Int))) ∧ St w [] w' := by
 obtain ⟨es, cc, hes, hme⟩ := hF.mp
 obtain ⟨j, hj⟩ := hme.2 (hshI P2)
 rw [Int.toNat_natCast] at hj hme
 have hir := hsh_range P2
 have hPl := hsP.1
 have hbl := hsF.1
 refine qP (args := [.slice A2 m2 c2, .int .u64 (hshI P2), .pointer (some ⟨gm, 0, none⟩), .pointer (some ⟨gf, 0, none⟩)]) Tryz.func73 rfl Tryz.ntmps73 (by simp) ?_
 refine qC [0, 1, 2, 3] ?_
 iterate 7 refine gx ?_
 refine qB (qA rfl) rfl (qJ rfl agg111 rfl (qp hF.cm hF.lm qF)) ?_
 refine gx ?_
 refine qB (qA rfl) rfl (Gets.lookNo hes (by intro e he; cases he) rfl Tryz.underlying111 Tryz.underlying73 zero3 rfl rfl (by rw [hfx] at hj; exact hj)) ?_
 iterate 7 refine gx ?_
 refine qC [0, 3, 6, 7, 8] ?_
 iterate 7 refine gx ?_
 refine qq rfl ?_
 iterate 7 refine gx ?_
 exact qN rfl rfl (fun w hs => ⟨ret_i (by rw [occ_no (match_no (F := B) hs1 (by omega) (by rw [hbl]; exact hfx))]), hs⟩)
theorem ffind_yes (gm gf mb : Nat) (b ob m c : Nat) (B : List Int) (s : Nat) (A2 : Option Addr) (m2 c2 : Nat) (P2 : List Int) (hs1 : 1 ≤ s) (hm2 : m2 = s) (hmc : m ≤ c) (hcm : c ≤ 9223372036854775807) (hm : m ≤ 1000000) (hs2 : s ≤ 1000000) (hBB : Bytes B) (hPP : Bytes P2) (w : World) (hF : FindC w gm gf mb (some ⟨b, ob, none⟩) m c B s) (hsF : Src w (some ⟨b, ob, none⟩) m .u8 B) (hsP : Src w A2 m2 .u8 P2) (hMX : MaxC w) (off : Nat) (hfx : firstH B s (cntH m s) (hshI P2) = some off) : Calls Tryz.prog 73 #[.slice A2 m2 c2, .int .u64 (hshI P2), .pointer (some ⟨gm, 0, none⟩), .pointer (some ⟨gf, 0, none⟩)] w fun e w' => e = .returned (.int .i64 (occI B P2 (s : Int))) ∧ St w [] w' := by
 obtain ⟨es, cc, hes, hme⟩ := hF.mp
 obtain ⟨j, hj⟩ := hme.2 (hshI P2)
 rw [Int.toNat_natCast] at hj hme
 have hir := hsh_range P2
 have hPl := hsP.1
 have hbl := hsF.1
 obtain ⟨hof, hmt⟩ := match_from (F := B) hs1 (by omega) hBB hPP (by rw [hbl]; exact hfx)
 obtain ⟨ri, hri⟩ : ∃ ri : Int, ri = (Lib.index (Lib.bytesOf (B.drop off)) (Lib.bytesOf P2)) := ⟨_, rfl⟩
 have hge := Lib.index_ge (Lib.bytesOf (B.drop off)) (Lib.bytesOf P2)
 rw [← hri] at hmt hge
 have hrx : ri < 0 ∧ -1 ≤ ri ∨ 0 ≤ ri ∧ off + ri ≤ m := by rcases hmt with ⟨h1, h2⟩ | ⟨i, h1, h2, h3⟩; exact .inl ⟨h1, hge⟩; exact .inr ⟨by omega, by omega⟩
 rw [hbl] at hof
 obtain ⟨b1, ob1, hA1, hb1, hr1⟩ := hsF.2.resolve_left (by omega)
 cases hA1
 refine qP (args := [.slice A2 m2 c2, .int .u64 (hshI P2), .pointer (some ⟨gm, 0, none⟩), .pointer (some ⟨gf, 0, none⟩)]) Tryz.func73 rfl Tryz.ntmps73 (by simp) ?_
 refine qC [0, 1, 2, 3] ?_
 iterate 7 refine gx ?_
 refine qB (qA rfl) rfl (qJ rfl agg111 rfl (qp hF.cm hF.lm qF)) ?_
 refine gx ?_
 refine qB (qA rfl) rfl (Gets.lookYes hes (by intro e he; cases he) rfl Tryz.underlying111 Tryz.underlying73 zero3 rfl rfl (by rw [hfx] at hj; exact hj)) ?_
 iterate 7 refine gx ?_
 refine qC [0, 3, 6, 7, 8] ?_
 iterate 7 refine gx ?_
 refine ql rfl ?_
 iterate 3 refine gx ?_
 obtain ⟨b2, o2, hA2, hb2, hr2⟩ := hsP.2.resolve_left (by omega)
 subst hA2
 refine gx ?_
 refine qB (qA rfl) rfl (qJ rfl agg22 rfl (qp hF.cf hF.lf qF)) ?_
 refine gx ?_
 refine qB (qA rfl) rfl (zG rfl Tryz.underlying22 size5 rfl (bnd.at_ (l := off) rfl (by omega)) bnd.dflt (by omega) (by omega) (A' := some ⟨b, (ob + off), none⟩) (cut_is (by omega) (by omega)) (ln := (m - off)) (cp := (c - off)) (by omega) (by omega)) ?_
 refine gx ?_
 refine qR (qA rfl) rfl enters74 rfl rfl (v := .int .i64 ri) (fun w hs => (bidx_c b (ob + off) (m - off) (c - off) b2 o2 m2 c2 (B.drop off) P2 w (by rw [List.length_drop, hbl]) hPl (hBB.drop' off) hPP (rowI_drop (hr1.keepH hs hb1 qF) (by omega)) (hr2.keepH hs hb2 qF) (by omega) (by omega) (by omega) (hMX.at_ hs qF)).mono fun e w' h => by rw [← hri] at h; exact h) ?_
 iterate 3 refine gx ?_
 refine qC [6, 7, 9] ?_
 iterate 7 refine gx ?_
 refine qQ rfl (fun h1 => ?_) (fun h1 => ?_)
 ·iterate 7 refine gx ?_
  exact qN rfl rfl (fun w hs => ⟨ret_i (by rcases hmt with ⟨h1, h2⟩ | ⟨i, h1, h2, h3⟩; rw [occ_no h2]; omega), hs⟩)
 ·iterate 6 refine gx ?_
  refine qB (qA rfl) rfl (qU rfl rfl rfl (r := ((off : Int) + ri)) (w64 (by omega) (by omega))) ?_
  iterate 4 refine gx ?_
  exact qN rfl rfl (fun w hs => ⟨ret_i (by rcases hmt with ⟨h1, h2⟩ | ⟨i, h1, h2, h3⟩; omega; rw [occ_yes h2]; omega), hs⟩)
theorem ffind_c (gm gf mb : Nat) (A1 : Option Addr) (m c : Nat) (B : List Int) (s : Nat) (A2 : Option Addr) (m2 c2 : Nat) (P2 : List Int) (hs1 : 1 ≤ s) (hm2 : m2 = s) (hmc : m ≤ c) (hcm : c ≤ 9223372036854775807) (hm : m ≤ 1000000) (hs2 : s ≤ 1000000) (hBB : Bytes B) (hPP : Bytes P2) (w : World) (hF : FindC w gm gf mb A1 m c B s) (hsF : Src w A1 m .u8 B) (hsP : Src w A2 m2 .u8 P2) (hMX : MaxC w) : Calls Tryz.prog 73 #[.slice A2 m2 c2, .int .u64 (hshI P2), .pointer (some ⟨gm, 0, none⟩), .pointer (some ⟨gf, 0, none⟩)] w fun e w' => e = .returned (.int .i64 (occI B P2 (s : Int))) ∧ St w [] w' := by
 cases hfx : firstH B s (cntH m s) (hshI P2) with
 | none => exact ffind_no gm gf mb A1 m c B s A2 m2 c2 P2 hs1 hm2 hmc hcm hm hs2 hBB hPP w hF hsF hsP hMX hfx
 | some off =>
  have h1 := cntH_lt (firstH_some hfx).1
  obtain ⟨b, ob, rfl, _, _⟩ := hsF.2.resolve_left (by omega)
  exact ffind_yes gm gf mb b ob m c B s A2 m2 c2 P2 hs1 hm2 hmc hcm hm hs2 hBB hPP w hF hsF hsP hMX off hfx
/-
 The wrap.
-/
open Go Go.RowKit Go.ChangeShapes Go.WideShapes Go.ChangeAt Go.Joins Go.Deep
theorem returnsInHanded_both {H : Type} {enc : TypeId × Value → H} {a : Assume} {C : Checked} {os : Os} {f : FuncId} {fn : Func} {s : ChangeSpec} {conds : List PathCond} {apart fresh handsOn again : Bool} {X : World → Array Value → Prop}
  (hX : ∀ (w w' : World) (args : Array Value), w.heap = w'.heap → X w args → X w' args)
  (own : ownKnob C.prog.godebug = none) (started : os.Started) (noInit : C.prog.inits.idxOf? f = none) (hfn : C.prog.funcs[f]? = some fn)
  (witness : ∃ (w : World) (tape : Tape) (i : Input), w.os = os ∧ (w.forCall tape i).Shaped C.prog ∧ i.vars = [] ∧ Input.okWide C.prog (w.forCall tape i) .any w.heap.size f i ∧
   ((s.pre enc C.prog fn conds apart (w.forCall tape i).memory i.args ∧ X (w.forCall tape i).memory i.args) ∧ sizedMet enc C.prog fn (OpenSpec.ofChange s) apart (w.forCall tape i).memory i.args) ∧ a.holds C.prog (lone (Frame.enter C.prog f i.args .normal) [] (w.forCall tape i)))
  (contract : ∀ (W : World) (base : Nat) (args : Array Value) (ds gs : List (DataW H)) (before : List MemPlace),
   (∀ (j : Nat) t v, fn.params[j]? = some t → args[j]? = some v → Value.okWide C.prog W .any base t v) →
   DataW.Whole enc C.prog fn.params.toList s.vars apart W args.toList ds gs before →
   (DataW.weightsEach C.prog (fn.params.toList ++ s.plain.varTypes C.prog) (ds ++ gs)).all (· ≤ reachBytes) = true → X W args → W.ShapedOpen C.prog →
   Calls C.prog f args W fun e W' => ∃ v, e = .returned v ∧ s.post enc C.prog fn apart fresh handsOn again W args v W') :
  ReturnsInHanded a C os f .any (fun w args => (s.pre enc C.prog fn conds apart w args ∧ X w args) ∧ sizedMet enc C.prog fn (OpenSpec.ofChange s) apart w args) (s.post enc C.prog fn apart fresh handsOn again) := by
 refine returnsInHanded_of_calls own started noInit witness ?_
 intro w tape i _ hsh _ hok hpre _
 obtain ⟨_, _, _, fn', hfn', _, _, _, _, hval⟩ := hok
 obtain rfl : fn' = fn := Option.some.inj (hfn'.symm.trans hfn)
 obtain ⟨⟨⟨ds, gs, before, hw, _⟩, hx⟩, hz⟩ := hpre
 refine (contract (w.forCall tape i) w.heap.size i.args ds gs before hval (DataW.Whole.of_heap (w' := w.forCall tape i) (by rfl) hw) (hz.weights hw) (hX _ _ _ (by rfl) hx) hsh).mono fun e W' ⟨v, he, hp⟩ => ?_
 subst he
 exact ChangeSpec.post_blind hp
theorem maxC_of {W : World} (h : W.ShapedOpen Tryz.prog) : MaxC W := by
 obtain ⟨m, hm⟩ := cell_of_shapedOpen_int (g := 1) (t := 3) (zero := #[.int .i64 0]) (k := .i64) h (of_decide_eq_true (by kernel_rfl)) (by kernel_rfl) rfl (by kernel_rfl) (by kernel_rfl) Tryz.underlying3
 exact ⟨World.block_lt_of_cell? W _ hm, m, hm⟩
/-
 The commands that the program makes, beside the greedy ones; commands in memory of the call's own, as values.
-/
def litP (off : Nat) (P : List Int) : List PC := if P = [] then [] else [(2, (off : Int), 0, 0, P)]
theorem litP_nil (off : Nat) : litP off [] = [] := if_pos rfl
theorem litP_some {off : Nat} {P : List Int} (h : P ≠ []) : litP off P = [(2, (off : Int), 0, 0, P)] := if_neg h
theorem litP_len (off : Nat) (P : List Int) : (litP off P).length ≤ 1 := by unfold litP; split <;> simp
def noLit (ps : List PC) : Prop := ∀ c, ps.getLast? = some c → ¬ c.1 = 2
theorem noLit_nil : noLit [] := fun c h => by cases h
theorem noLit_copy (ps : List PC) (a b c : Int) (d : List Int) : noLit (ps ++ [(1, a, b, c, d)]) := fun x h => by
 rw [List.getLast?_append] at h
 simp at h; subst h; show ¬ (1 : Int) = 2; decide
theorem push_lit {ps : List PC} {e : Nat} {seg : List Int} {x : Int} (h : noLit ps) : pushL (ps ++ litP e seg) (e + seg.length) x = ps ++ litP e (seg ++ [x]) := by
 rw [litP_some (P := seg ++ [x]) (by simp)]
 by_cases hs : seg = []
 ·subst hs
  rw [litP_nil, List.append_nil]
  unfold pushL
  cases hl : ps.getLast? with
  | none => rfl
  | some c => simp only [if_neg (h c hl)]; rfl
 ·rw [litP_some hs]
  unfold pushL
  rw [List.getLast?_append]
  simp [addLit]
structure GI (old new : List Int) (k : Int) (i e : Nat) (ps : List PC) : Prop where
 le : e ≤ new.length
 nl : noLit ps
 gr : greedy old new k (max e i) (ps ++ litP e ((new.take (max e i)).drop e))
theorem GI.zero (old new : List Int) (k : Int) : GI old new k 0 0 [] := ⟨Nat.zero_le _, noLit_nil, by
 show greedy old new k 0 ([] ++ litP 0 ((new.take 0).drop 0))
 rw [List.take_zero, List.drop_nil, litP_nil]
 exact greedy_zero old new k⟩
theorem GI.skip {old new : List Int} {k : Int} {i e : Nat} {ps : List PC} (h : GI old new k i e ps) (hi : i < e) : GI old new k (i + 1) e ps := by
 obtain ⟨h1, h2, h3⟩ := h
 rw [show max e i = e by omega] at h3
 exact ⟨h1, h2, by rw [show max e (i + 1) = e by omega]; exact h3⟩
theorem seg_snoc {new : List Int} {e i : Nat} (h1 : e ≤ i) (h2 : i < new.length) : (new.take (i + 1)).drop e = (new.take i).drop e ++ [new.getD i 0] := by
 rw [List.take_succ_eq_append_getElem h2, getD_in h2, List.drop_append_of_le_length (by rw [List.length_take]; omega)]
theorem seg_len {new : List Int} {e i : Nat} (h1 : e ≤ i) (h2 : i ≤ new.length) : ((new.take i).drop e).length = i - e := by
 rw [List.length_drop, List.length_take]; omega
theorem GI.lit {old new : List Int} {k : Int} {i e : Nat} {ps : List PC} (h : GI old new k i e ps) (hi : e ≤ i) (hl : i < new.length) (hm : matchI old (new.drop i) k = none) : GI old new k (i + 1) e ps := by
 obtain ⟨h1, h2, h3⟩ := h
 rw [show max e i = i by omega] at h3
 have h4 := greedy_lit h3 hl hm
 have h5 := push_lit (e := e) (seg := (new.take i).drop e) (x := new.getD i 0) h2
 rw [seg_len hi (by omega), show e + (i - e) = i by omega, ← seg_snoc hi hl] at h5
 rw [h5] at h4
 exact ⟨h1, h2, by rw [show max e (i + 1) = i + 1 by omega]; exact h4⟩
theorem GI.copy {old new : List Int} {k : Int} {i e q : Nat} {ps : List PC} (h : GI old new k i e ps) (hi : e ≤ i) (hl : i < new.length) (hm : matchI old (new.drop i) k = some q) :
  GI old new k (i + 1) (i + eqN (old.drop q) (new.drop i)) (ps ++ litP e ((new.take i).drop e) ++ [(1, (i : Int), (q : Int), (eqN (old.drop q) (new.drop i) : Int), [])]) := by
 obtain ⟨h1, h2, h3⟩ := h
 rw [show max e i = i by omega] at h3
 have h4 := greedy_copy h3 hl hm
 have h5 := matchI_spec hm
 rw [List.length_drop] at h5
 refine ⟨by omega, noLit_copy _ _ _ _ _, ?_⟩
 rw [show max (i + eqN (old.drop q) (new.drop i)) (i + 1) = i + eqN (old.drop q) (new.drop i) by omega]
 have e1 : (new.take (i + eqN (old.drop q) (new.drop i))).drop (i + eqN (old.drop q) (new.drop i)) = [] := List.drop_eq_nil_of_le (by rw [List.length_take]; omega)
 rw [e1, litP_nil, List.append_nil]
 exact h4
theorem GI.done {old new : List Int} {k : Int} : ∀ (d i e : Nat) (ps : List PC), new.length ≤ i + d → GI old new k i e ps → (∀ p, i ≤ p → p < new.length → matchI old (new.drop p) k = none) → ps ++ litP e (new.drop e) = cmdsL old new k
 | 0, i, e, ps, hd, h, hm => by
  obtain ⟨h1, h2, h3⟩ := h
  have h4 := h3.1
  have e1 : max e i = new.length := by omega
  rw [e1, List.take_length] at h3
  exact greedy_end h3 (Nat.le_refl _)
 | d + 1, i, e, ps, hd, h, hm => by
  by_cases hi : i < e
  ·exact GI.done d (i + 1) e ps (by omega) (h.skip hi) (fun p hp => hm p (by omega))
  ·by_cases hl : i < new.length
   ·exact GI.done d (i + 1) e ps (by omega) (h.lit (by omega) hl (hm i (Nat.le_refl _) hl)) (fun p hp => hm p (by omega))
   ·exact GI.done 0 i e ps (by omega) h hm
theorem GI.end_ {old new : List Int} {k : Int} {e : Nat} {ps : List PC} (h : GI old new k (cntH new.length k) e ps) : ps ++ litP e (new.drop e) = cmdsL old new k :=
 GI.done new.length _ e ps (by omega) h fun p hp hl => matchI_no (by
  by_cases hk : k < 1
  ·exact .inl hk
  ·right
   rw [List.length_drop]
   by_cases h2 : (new.length : Int) < k
   ·omega
   ·obtain ⟨s, rfl⟩ : ∃ s : Nat, k = s := ⟨k.toNat, by omega⟩
    rw [cntH_yes (by omega) (by omega)] at hp
    omega)
def OwnL (N : Nat) (t : TypeId) (v : Value) (ps : List PC) (He : List Ent) : Prop :=
 ∃ (Cs : List CV) (Hs Hd : List Ent), Cs.map valC = ps ∧ (∀ x ∈ Cs, x.m = x.B.length) ∧ He = Hs ++ Hd ∧ OwnS N t 5 v Cs.length (flatC Cs) Hs ∧ OwnB N Cs Hd
theorem OwnL.nil (N : Nat) (t : TypeId) : OwnL N t (.slice none 0 0) [] [] := ⟨[], [], [], rfl, (fun x h => by cases h), rfl, OwnS.nil N t 5, OwnB.nil N⟩
theorem OwnL.new {N : Nat} {t : TypeId} {v : Value} {ps : List PC} {He : List Ent} (h : OwnL N t v ps He) : ∀ e ∈ He, N ≤ e.g := by
 obtain ⟨Cs, Hs, Hd, _, _, rfl, h1, h2⟩ := h
 intro e he
 rcases List.mem_append.1 he with he | he
 ·exact h1.new e he
 ·exact h2.1 e he
theorem OwnL.mono {N N' : Nat} {t : TypeId} {v : Value} {ps : List PC} {He : List Ent} (h : OwnL N' t v ps He) (hN : N ≤ N') : OwnL N t v ps He := by
 obtain ⟨Cs, Hs, Hd, h1, h2, h3, h4, h5⟩ := h
 exact ⟨Cs, Hs, Hd, h1, h2, h3, h4.mono hN, ⟨fun e he => Nat.le_trans hN (h5.1 e he), h5.2⟩⟩
theorem OwnL.form {N : Nat} {t : TypeId} {v : Value} {ps : List PC} {He : List Ent} (h : OwnL N t v ps He) : ∃ A c, v = .slice A ps.length c ∧ ps.length ≤ c ∧ c ≤ 9223372036854775807 := by
 obtain ⟨Cs, Hs, Hd, h1, h2, h3, h4, h5⟩ := h
 obtain ⟨A, c, e1, e2, e3⟩ := h4.form
 have hl : Cs.length = ps.length := by rw [← h1, List.length_map]
 rw [hl] at e1 e2
 exact ⟨A, c, e1, e2, e3⟩
theorem OwnB.addC {N : Nat} {Fs : List CV} {He : List Ent} (h : OwnB N Fs He) {t f l : Int} (hn : NumC ⟨1, t, f, l, none, 0, 0, []⟩) : OwnB N (Fs ++ [⟨1, t, f, l, none, 0, 0, []⟩]) He :=
 ⟨h.1, nums_add h.2.1 hn, fun w hl => dat_add (h.2.2 w hl) ⟨src_no, bytes_no⟩⟩
theorem OwnB.addL {N g tt tot m : Nat} {Fs : List CV} {He : List Ent} (h : OwnB N Fs He) {t : Int} {P : List Int} (hg : N ≤ g) (hP : P.length = m) (hb : Bytes P) {c : Nat} (hn : NumC ⟨2, t, 0, 0, some ⟨g, 0, none⟩, m, c, P⟩) :
  OwnB N (Fs ++ [⟨2, t, 0, 0, some ⟨g, 0, none⟩, m, c, P⟩]) (He ++ [⟨g, tt, P.map (int .u8), tot⟩]) :=
 ⟨fun e he => by
  rcases List.mem_append.1 he with he | he
  ·exact h.1 e he
  ·rw [List.mem_singleton.1 he]; exact hg, nums_add h.2.1 hn, fun w hl => dat_add (h.2.2 w fun e he => hl e (List.mem_append.2 (.inl he))) ⟨src_ent (hl _ (List.mem_append.2 (.inr List.mem_cons_self))) hP, hb⟩⟩
theorem OwnL.ownD {N : Nat} {t : TypeId} {A : Option Addr} {m c : Nat} {ps : List PC} {He : List Ent} (h : OwnL N t (.slice A m c) ps He) : ∃ Cs : List CV, Cs.map valC = ps ∧ (∀ x ∈ Cs, x.m = x.B.length) ∧ m = ps.length ∧ OwnD N A m Cs He := by
 obtain ⟨Cs, Hs, Hd, h1, h2, rfl, h4, h5⟩ := h
 have hl : Cs.length = ps.length := by rw [← h1, List.length_map]
 have hm : m = Cs.length := by
  rcases h4.2 with ⟨e1, e2, _⟩ | ⟨g, cap, e1, _⟩
  ·cases e1; exact e2.symm
  ·cases e1; rfl
 subst hm
 refine ⟨Cs, h1, h2, hl, fun e he => ?_, h5.2.1, ?_, fun w hw => ⟨h4.srcC (fun e he => hw e (List.mem_append.2 (.inl he))), h5.2.2 w (fun e he => hw e (List.mem_append.2 (.inr he)))⟩⟩
 ·rcases List.mem_append.1 he with he | he
  ·exact h4.new e he
  ·exact h5.1 e he
 ·rcases h4.2 with ⟨e1, e2, _⟩ | ⟨g, cap, e1, _⟩
  ·exact .inl e2
  ·cases e1; exact .inr ⟨g, 0, rfl⟩
/-
 The code of layer 8: addLiteral.
-/
theorem enters76 : Enters Tryz.prog 76 := ⟨_, Tryz.func76, by kernel_rfl, by kernel_rfl⟩
theorem zero22 : (Tryz.prog.info? 22).bind (·.zero) = some (.slice none 0 0) := by kernel_rfl
theorem litP_nil' {e : Nat} {P : List Int} (h : P.length = 0) : litP e P = [] := if_pos (List.length_eq_zero_iff.1 h)
theorem ms_add {Cs : List CV} {x : CV} (h : ∀ y ∈ Cs, y.m = y.B.length) (hx : x.m = x.B.length) : ∀ y ∈ Cs ++ [x], y.m = y.B.length := fun y hy => by
 rcases List.mem_append.1 hy with hy | hy
 ·exact h y hy
 ·rw [List.mem_singleton.1 hy]; exact hx
theorem lit_keep {B w : World} {Hc Hd X Y He2 : List Ent} {d : Ent} (h : St B (((Hc ++ Hd) ++ X) ++ He2) w) (hX : X.Perm (d :: Y)) (hY : ∀ e ∈ Y, B.heap.size ≤ e.g) : St B (Hc ++ (He2 ++ (Hd ++ [d]))) w := by
 have hp : (((Hc ++ Hd) ++ X) ++ He2).Perm (Y ++ (Hc ++ (He2 ++ (Hd ++ [d])))) := by
  refine (List.Perm.append_right He2 (List.Perm.append_left (Hc ++ Hd) hX)).trans ?_
  have e1 : ((Hc ++ Hd) ++ d :: Y) ++ He2 = Hc ++ (Hd ++ ([d] ++ (Y ++ He2))) := by simp
  rw [e1]
  have e2 : Y ++ (Hc ++ (He2 ++ (Hd ++ [d]))) = (Y ++ Hc) ++ (He2 ++ (Hd ++ [d])) := by simp
  rw [e2]
  refine List.Perm.trans ?_ (List.Perm.append_right _ List.perm_append_comm)
  rw [List.append_assoc]
  refine List.Perm.append_left Hc ?_
  have e3 : Y ++ (He2 ++ (Hd ++ [d])) = (Y ++ He2) ++ (Hd ++ [d]) := by simp
  have e4 : Hd ++ ([d] ++ (Y ++ He2)) = (Hd ++ [d]) ++ (Y ++ He2) := by simp
  rw [e3, e4]
  exact List.perm_append_comm
 exact zL Y (h.perm hp) hY
theorem addlit_c (B w : World) (Hc He : List Ent) (v : Value) (ps : List PC) (e0 : Nat) (A2 : Option Addr) (m2 c2 : Nat) (P2 : List Int) (he0 : e0 ≤ 1000000) (hpl : ps.length ≤ 3000000) (hm2 : m2 ≤ 1000000) (hmc2 : m2 ≤ c2) (hcm2 : c2 ≤ 9223372036854775807) (hst : St B (Hc ++ He) w) (hL : OwnL B.heap.size 54 v ps He) (hsP : Src w A2 m2 .u8 P2) (hPP : Bytes P2) : Calls Tryz.prog 43 #[v, .int .i64 (e0 : Int), .slice A2 m2 c2] w fun e w' => ∃ v' He', e = .returned v' ∧ OwnL B.heap.size 54 v' (ps ++ litP e0 P2) He' ∧ St B (Hc ++ He') w' := by
 obtain ⟨Cs, Hs, Hd, hCv, hCm, rfl, hS, hD⟩ := hL
 have hPl := hsP.1
 have hBw := hst.size
 have hCl : Cs.length = ps.length := by rw [← hCv, List.length_map]
 have hst2 : St B ((Hc ++ Hd) ++ Hs) w := hst.perm (by rw [List.append_assoc]; exact List.Perm.append_left Hc List.perm_append_comm)
 refine qP (args := [v, .int .i64 (e0 : Int), .slice A2 m2 c2]) Tryz.func43 rfl Tryz.ntmps43 (by simp) ?_
 refine qC [0, 1, 2] ?_
 iterate 13 refine gx ?_
 refine qQ rfl (fun hq0 => ?_) (fun hq0 => ?_)
 ·iterate 8 refine gx ?_
  exact qN rfl rfl (fun w hs => ⟨v, Hs ++ Hd, rfl, ⟨Cs, Hs, Hd, by rw [litP_nil' (by omega), List.append_nil]; exact hCv, hCm, rfl, hS, hD⟩, hst.call' hs⟩)
 ·iterate 7 refine gx ?_
  refine zF (qA rfl) rfl rfl Tryz.underlying65 size22 zero22 rfl (by decide) (by decide) (cells := #[.slice A2 m2 c2]) (tot := 1) (by kernel_rfl) (cs := [.slice A2 m2 c2]) rfl rfl (fun g1 hg1 => ?_)
  refine qr (ι := Nat × Nat) (V := fun yk => .agg ([int .i64 2, int .i64 (e0 : Int), int .i64 0, int .i64 0, slice (some ⟨yk.1, 0, none⟩) m2 yk.2]).toArray) (R := fun yk => (m2 ≤ yk.2 ∧ yk.2 ≤ maxLen) ∧ w.heap.size ≤ (⟨yk.1, 5, P2.map (int .u8), yk.2⟩ : Ent).g) (H' := fun yk => [⟨yk.1, 5, P2.map (int .u8), yk.2⟩, ⟨g1, 22, [slice A2 m2 c2], 1⟩]) (qA rfl) rfl enters76 rfl rfl (fun w hs => (show Calls Tryz.prog 76 #[.int .i64 (e0 : Int), .slice (some ⟨g1, 0, none⟩) 1 1] w (fun e w' => ∃ yk : Nat × Nat, e = .returned (.agg ([int .i64 2, int .i64 (e0 : Int), int .i64 0, int .i64 0, slice (some ⟨yk.1, 0, none⟩) m2 yk.2]).toArray) ∧ (m2 ≤ yk.2 ∧ yk.2 ≤ maxLen) ∧ w.heap.size ≤ (⟨yk.1, 5, P2.map (int .u8), yk.2⟩ : Ent).g ∧ St w [⟨yk.1, 5, P2.map (int .u8), yk.2⟩] w') from (literal1_c (e0 : Int) P2 A2 m2 c2 g1 22 1 w (hs.has (⟨g1, 22, [slice A2 m2 c2], 1⟩) (by simp)) (hsP.at_ hs (fun b hb => (qD (by show g1 ≠ b; omega) qF))) (by omega) (by omega) (by omega)).mono fun e w' ⟨gv, cv, he, hgv, hcv, hmv, hw⟩ => ⟨(gv, cv), he, ⟨hcv, hmv⟩, hgv, hw⟩).mono fun e w' ⟨x, he, hR, hE, hw⟩ => ⟨x, he, ⟨hR, Nat.le_trans hs.size hE⟩, hs.made hw hE⟩) (fun yk ⟨hRk, hEk⟩ => ?_)
  obtain ⟨gk, ck⟩ := yk
  dsimp only at hRk hEk ⊢
  obtain ⟨hck, hmk⟩ := hRk
  unfold maxLen at hmk
  refine zF (qA rfl) rfl rfl Tryz.underlying24 size54 zero54 rfl (by decide) (by decide) (cells := #[.int .i64 2, .int .i64 (e0 : Int), .int .i64 0, .int .i64 0, .slice (some ⟨gk, 0, none⟩) m2 ck]) (tot := 5) (by kernel_rfl) (cs := [.int .i64 2, .int .i64 (e0 : Int), .int .i64 0, .int .i64 0, .slice (some ⟨gk, 0, none⟩) m2 ck]) rfl rfl (fun g2 hg2 => ?_)
  refine TL.appendOver hst2 hS (qA rfl) rfl rfl Tryz.underlying24 mk54 rfl (by decide) rfl rfl (s := 5) (nn := Cs.length) (m := 1) (cs := flatC Cs) (news := cellsC ⟨2, (e0 : Int), 0, 0, some ⟨gk, 0, none⟩, m2, ck, P2⟩) (qI (by assumption) (qI (by assumption) (qI (by assumption) qa))) rfl (fun w hs => lies_srcV (hs.has (⟨g2, 54, [int .i64 2, int .i64 (e0 : Int), int .i64 0, int .i64 0, slice (some ⟨gk, 0, none⟩) m2 ck], 5⟩) (by simp))) (by intro u hu; exact flatC_one' [⟨2, (e0 : Int), 0, 0, some ⟨gk, 0, none⟩, m2, ck, P2⟩] u (by rw [flatC_one]; exact hu)) (by unfold maxLen; omega) (by omega) (fun v2 He2 w2 hown2 hst3 => ?_)
  iterate 4 refine gx ?_
  exact qN rfl rfl (fun w hs => ⟨v2, He2 ++ (Hd ++ [Ent.mk gk 5 (P2.map (int .u8)) ck]), rfl, ⟨Cs ++ [⟨2, (e0 : Int), 0, 0, some ⟨gk, 0, none⟩, m2, ck, P2⟩], He2, Hd ++ [Ent.mk gk 5 (P2.map (int .u8)) ck], by rw [List.map_append, hCv, litP_some (fun e => by rw [e] at hPl; simp at hPl; omega)]; rfl, ms_add hCm hPl.symm, rfl, by rw [List.length_append, flatC_app, flatC_one]; exact hown2, hD.addL (by omega) hPl hPP (by unfold NumC; dsimp only; omega)⟩, lit_keep (X := [Ent.mk g2 54 ([int .i64 2, int .i64 (e0 : Int), int .i64 0, int .i64 0, slice (some ⟨gk, 0, none⟩) m2 ck]) 5, Ent.mk gk 5 (P2.map (int .u8)) ck, Ent.mk g1 22 ([slice A2 m2 c2]) 1]) (Y := [Ent.mk g2 54 ([int .i64 2, int .i64 (e0 : Int), int .i64 0, int .i64 0, slice (some ⟨gk, 0, none⟩) m2 ck]) 5, Ent.mk g1 22 ([slice A2 m2 c2]) 1]) (hst3.call' hs) (List.Perm.swap _ _ _) (by intro e he; simp only [List.mem_cons, List.not_mem_nil, or_false] at he; rcases he with rfl | rfl <;> (dsimp only; omega))⟩)
/-
 The code of layer 8: Describe.
-/
theorem enters36 : Enters Tryz.prog 36 := ⟨_, Tryz.func36, by kernel_rfl, by kernel_rfl⟩
theorem buildD4 (o n : Int) (D1 D2 : List Int) (h1 : D1.length = 32) (h2 : D2.length = 32) (w : World) : (Instr.build 26 ([(0, int .i64 o), (1, int .i64 n), (2, Value.agg (D1.map (int .u8)).toArray), (3, Value.agg (D2.map (int .u8)).toArray)] : List (Nat × Value)).toArray).run Tryz.prog w = .ok (.agg (dV o n D1 D2 (slice none 0 0)).toArray) w := by
 obtain ⟨a0, a1, a2, a3, a4, a5, a6, a7, a8, a9, a10, a11, a12, a13, a14, a15, a16, a17, a18, a19, a20, a21, a22, a23, a24, a25, a26, a27, a28, a29, a30, a31, rfl⟩ := list32 h1
 obtain ⟨b0, b1, b2, b3, b4, b5, b6, b7, b8, b9, b10, b11, b12, b13, b14, b15, b16, b17, b18, b19, b20, b21, b22, b23, b24, b25, b26, b27, b28, b29, b30, b31, rfl⟩ := list32 h2
 kernel_rfl
theorem desc8_c (B P2 : List Int) (Ao A2 : Option Addr) (mo co m2 c2 : Nat) (A : Option Addr) (m c : Nat) (Cs : List CV) (hmo : mo ≤ co) (hm2 : m2 ≤ c2) (hco : co ≤ 9223372036854775807) (hcm2 : c2 ≤ 9223372036854775807) (hmo3 : mo ≤ 1000000) (hm23 : m2 ≤ 1000000) (hmm : m ≤ 1000000000) (hN : NumsC Cs) (w : World) (hsB : Src w Ao mo .u8 B) (hs2 : Src w A2 m2 .u8 P2) (hC : SrcC w A m Cs) (hD : DatC w Cs) (hf : fewQ Cs) (h1 : 2 < w.heap.size) (hIV : RowI w 0 0 8 .u32 IV) (hK : RowI w 2 0 64 .u32 KT) : Calls Tryz.prog 19 #[.slice Ao mo co, .slice A2 m2 c2, .slice A m c] w fun e w' => ∃ A' c' Fs He, e = .returned (.agg (dV (mo : Int) (m2 : Int) (shaM B) (shaM P2) (slice A' m ((c')))).toArray) ∧ (m ≤ c' ∧ c' ≤ 9223372036854775807) ∧ OwnD w.heap.size A' m Fs He ∧ sameE Fs Cs ∧ St w He w' := by
 refine qP (args := [.slice Ao mo co, .slice A2 m2 c2, .slice A m c]) Tryz.func19 rfl Tryz.ntmps19 (by simp) ?_
 refine qC [0, 1, 2] ?_
 iterate 2 refine gx ?_
 refine zK (qA rfl) rfl rfl zero26 (cs := [int .i64 0, int .i64 0] ++ ((List.replicate 64 0).map (int .u8) ++ ([slice none 0 0]))) rfl (tot := 67) (by simp) (fun g1 hg1 => ?_)
 iterate 9 refine gx ?_
 refine zF (qA rfl) rfl rfl Tryz.underlying65 size22 zero22 rfl (by decide) (by decide) (cells := #[.slice Ao mo co]) (tot := 1) (by kernel_rfl) (cs := [.slice Ao mo co]) rfl rfl (fun g2 hg2 => ?_)
 refine qR (qA rfl) rfl enters36 rfl rfl (v := .agg ((shaM B).map (int .u8)).toArray) (fun w hs => of_m [B] B (by simp) (some ⟨g2, 0, none⟩) 1 1 w (parts_one (hs.has (⟨g2, 22, [slice Ao mo co], 1⟩) (by simp)) (hsB.at_ hs (fun b hb => (qD (by show g2 ≠ b; omega) (qD (by show g1 ≠ b; omega) qF)))) (by omega)) (by omega) (by omega) (by have h1 := hsB.1; omega) (Nat.lt_of_lt_of_le h1 hs.size) (hIV.keepH hs (by omega) (qD (by show g2 ≠ 0; omega) (qD (by show g1 ≠ 0; omega) qF))) (hK.keepH hs h1 (qD (by show g2 ≠ 2; omega) (qD (by show g1 ≠ 2; omega) qF)))) ?_
 refine gx ?_
 refine zF (qA rfl) rfl rfl Tryz.underlying65 size22 zero22 rfl (by decide) (by decide) (cells := #[.slice A2 m2 c2]) (tot := 1) (by kernel_rfl) (cs := [.slice A2 m2 c2]) rfl rfl (fun g3 hg3 => ?_)
 refine qR (qA rfl) rfl enters36 rfl rfl (v := .agg ((shaM P2).map (int .u8)).toArray) (fun w hs => of_m [P2] P2 (by simp) (some ⟨g3, 0, none⟩) 1 1 w (parts_one (hs.has (⟨g3, 22, [slice A2 m2 c2], 1⟩) (by simp)) (hs2.at_ hs (fun b hb => (qD (by show g3 ≠ b; omega) (qD (by show g2 ≠ b; omega) (qD (by show g1 ≠ b; omega) qF))))) (by omega)) (by omega) (by omega) (by have h1 := hs2.1; omega) (Nat.lt_of_lt_of_le h1 hs.size) (hIV.keepH hs (by omega) (qD (by show g3 ≠ 0; omega) (qD (by show g2 ≠ 0; omega) (qD (by show g1 ≠ 0; omega) qF)))) (hK.keepH hs h1 (qD (by show g3 ≠ 2; omega) (qD (by show g2 ≠ 2; omega) (qD (by show g1 ≠ 2; omega) qF))))) ?_
 refine qB (qA rfl) rfl (qm rfl (vs := [(0, int .i64 (mo : Int)), (1, int .i64 (m2 : Int)), (2, Value.agg ((shaM B).map (int .u8)).toArray), (3, Value.agg ((shaM P2).map (int .u8)).toArray)]) rfl (fun w => buildD4 (mo : Int) (m2 : Int) (shaM B) (shaM P2) (shaM_len B) (shaM_len P2) w) (v := .agg (dV (mo : Int) (m2 : Int) (shaM B) (shaM P2) (slice none 0 0)).toArray)) ?_
 refine gx ?_
 refine qr (ι := (Option Addr × Nat) × (List CV × List Ent)) (V := fun y => .agg (dV (mo : Int) (m2 : Int) (shaM B) (shaM P2) (slice y.1.1 m y.1.2)).toArray) (R := fun y => (m ≤ y.1.2 ∧ y.1.2 ≤ 9223372036854775807) ∧ OwnD w.heap.size y.1.1 m y.2.1 y.2.2 ∧ sameE y.2.1 Cs) (H' := fun y => [⟨g3, 22, [slice A2 m2 c2], 1⟩, ⟨g2, 22, [slice Ao mo co], 1⟩, ⟨g1, 26, [int .i64 0, int .i64 0] ++ ((List.replicate 64 0).map (int .u8) ++ ([slice none 0 0])), 67⟩] ++ y.2.2) (qA rfl) rfl enters38 rfl rfl (fun w hs => (dwith_c (mo : Int) (m2 : Int) (shaM B) (shaM P2) (shaM_len B) (shaM_len P2) none 0 0 A m c Cs hmm hN w (hC.at_ hs (fun b hb => (qD (by show g3 ≠ b; omega) (qD (by show g2 ≠ b; omega) (qD (by show g1 ≠ b; omega) qF))))) (hD.at_ hs (fun b hb => (qD (by show g3 ≠ b; omega) (qD (by show g2 ≠ b; omega) (qD (by show g1 ≠ b; omega) qF))))) hf).mono fun e w' ⟨A', c', Fs, He, he, hc, ho, hsm, hw⟩ => ⟨((A', c'), (Fs, He)), he, ⟨hc, ho.mono hs.size, hsm⟩, st_call hs hw ho.1⟩) (fun y hR => ?_)
 obtain ⟨⟨As, cs⟩, Fs, Hw⟩ := y
 obtain ⟨hcs, hos, hsm⟩ := hR
 dsimp only at hcs hos hsm ⊢
 have hFw : Fresh w Hw := hos.1
 refine qz (qA rfl) rfl rfl size26 rfl (vs := dV (mo : Int) (m2 : Int) (shaM B) (shaM P2) (slice As m cs)) rfl (by simp [(shaM_len B), (shaM_len P2)]) (zH (by simp [Value.oneCell']) (zH qk (zH qk (by simp [Value.oneCell'])))) (i := 2) (ent := ⟨g1, 26, [int .i64 0, int .i64 0] ++ ((List.replicate 64 0).map (int .u8) ++ ([slice none 0 0])), 67⟩) rfl rfl (by simp []) (H' := [⟨g3, 22, [slice A2 m2 c2], 1⟩, ⟨g2, 22, [slice Ao mo co], 1⟩, ⟨g1, 26, dV (mo : Int) (m2 : Int) (shaM B) (shaM P2) (slice As m cs), 67⟩] ++ Hw) rfl ?_
 iterate 3 refine gx ?_
 exact qn rfl agg26 size26 rfl (vs := dV (mo : Int) (m2 : Int) (shaM B) (shaM P2) (slice As m cs)) (by simp [(shaM_len B), (shaM_len P2)]) (qZ (i := 2) (ent := ⟨g1, 26, dV (mo : Int) (m2 : Int) (shaM B) (shaM P2) (slice As m cs), 67⟩) rfl rfl rfl) (fun w hs => ⟨As, cs, Fs, Hw, rfl, hcs, hos, hsm, (((hs.erase (i := 0) rfl (by assumption)).erase (i := 0) rfl (by assumption)).erase (i := 0) rfl (by assumption))⟩)
/-
 The code of layer 8: Make.
-/
theorem agg68 : (isAgg 68).run Tryz.prog = fun w => .ok false w := isAgg_no Tryz.underlying68 rfl
theorem enters19 : Enters Tryz.prog 19 := ⟨_, Tryz.func19, by kernel_rfl, by kernel_rfl⟩
theorem enters40 : Enters Tryz.prog 40 := ⟨_, Tryz.func40, by kernel_rfl, by kernel_rfl⟩
theorem enters42 : Enters Tryz.prog 42 := ⟨_, Tryz.func42, by kernel_rfl, by kernel_rfl⟩
theorem enters43 : Enters Tryz.prog 43 := ⟨_, Tryz.func43, by kernel_rfl, by kernel_rfl⟩
theorem enters44 : Enters Tryz.prog 44 := ⟨_, Tryz.func44, by kernel_rfl, by kernel_rfl⟩
theorem enters73 : Enters Tryz.prog 73 := ⟨_, Tryz.func73, by kernel_rfl, by kernel_rfl⟩
theorem size68 : (Tryz.prog.info? 68).map (·.size) = some 1 := by kernel_rfl
theorem zero24 : (Tryz.prog.info? 24).bind (·.zero) = some (.slice none 0 0) := by kernel_rfl
theorem zero68 : (Tryz.prog.info? 68).bind (·.zero) = some (.nilFunc) := by kernel_rfl
instance : AgN Tryz.prog 68 := ⟨agg68⟩
instance : Zer Tryz.prog 24 [slice none 0 0] := ⟨⟨_, zero24, rfl⟩⟩
instance : Zer Tryz.prog 68 [Value.nilFunc] := ⟨⟨_, zero68, rfl⟩⟩
structure MkS where
 e : Nat
 v : Value
 ps : List PC
 He : List Ent
theorem len_flat_mem {l : List Int} : ∀ {L : List (List Int)}, l ∈ L → l.length ≤ L.flatten.length
 | [], h => by cases h
 | a :: L, h => by
  rw [List.flatten_cons, List.length_append]
  rcases List.mem_cons.1 h with rfl | h
  ·omega
  ·have := len_flat_mem h; omega
theorem ne_app3 {H He : List Ent} {a b c : Nat} (h : ∀ e ∈ H, e.g ≠ a ∧ e.g ≠ b ∧ e.g ≠ c) (h2 : ∀ e ∈ He, e.g ≠ a ∧ e.g ≠ b ∧ e.g ≠ c) : ∀ e ∈ H ++ He, e.g ≠ a ∧ e.g ≠ b ∧ e.g ≠ c := fun e he => by
 rcases List.mem_append.1 he with he | he
 ·exact h e he
 ·exact h2 e he
theorem cmds_few {old new : List Int} {k : Int} {Cs : List CV} (hv : Cs.map valC = cmdsL old new k) (hm : ∀ x ∈ Cs, x.m = x.B.length) (hn : new.length ≤ 300) (hl : Cs.length ≤ 5000) : fewQ Cs := by
 refine ⟨fun i x hx => ?_, hl⟩
 have hmem := List.mem_of_getElem? hx
 obtain ⟨h1, _, _, h4⟩ := cmdsL_leads old new k
 have h5 : valC x ∈ cmdsL old new k := by rw [← hv]; exact List.mem_map_of_mem hmem
 rw [hm x hmem]
 rcases h1 _ h5 with h | h
 ·have : x.B = [] := h.2.2.2.2
  rw [this]; simp
 ·have h6 : segP old (valC x) = x.B := by unfold segP; rw [if_neg (by rw [h.1]; decide)]; rfl
  have h7 : (segP old (valC x)).length ≤ (((cmdsL old new k).map (segP old)).flatten).length := by
   exact len_flat_mem (List.mem_map_of_mem h5)
  rw [h4, List.take_length, h6] at h7
  omega
theorem seg_eq {P2 : List Int} {e i : Nat} : (P2.take i).drop e = (P2.drop e).take (i - e) := by rw [List.drop_take]
theorem roundx_keep {B w : World} {Hc Hd Hs : List Ent} {d : Ent} (h : St B (Hc ++ (([d] ++ Hd) ++ Hs)) w) (hd : B.heap.size ≤ d.g) : St B (Hc ++ (Hs ++ Hd)) w := by
 have hp : (Hc ++ (([d] ++ Hd) ++ Hs)).Perm (d :: (Hc ++ (Hs ++ Hd))) := by
  have e1 : Hc ++ (([d] ++ Hd) ++ Hs) = Hc ++ d :: (Hd ++ Hs) := by simp
  rw [e1]
  refine List.perm_middle.trans (List.Perm.cons d ?_)
  exact List.Perm.append_left Hc List.perm_append_comm
 exact (h.perm hp).drop hd
theorem mk_m {Fs Cx : List CV} (h : sameE Fs Cx) (hm : ∀ x ∈ Cx, x.m = x.B.length) : ∀ x ∈ Fs, x.m = x.B.length := fun x hx => by
 have h1 : keyE x ∈ Cx.map keyE := by rw [← h]; exact List.mem_map_of_mem hx
 obtain ⟨y, hy, he⟩ := List.mem_map.1 h1
 have h2 := hm y hy
 have h3 : y.m = x.m := congrArg Prod.snd he
 have h4 : y.B = x.B := congrArg (fun z => z.1.2.2.2.2) he
 rw [← h3, ← h4]; exact h2
theorem mk_drop {w w2 : World} {X Ha Hw : List Ent} (h : St w (X ++ (([] ++ Ha) ++ Hw)) w2) (hX : ∀ e ∈ X, w.heap.size ≤ e.g) (hA : ∀ e ∈ Ha, w.heap.size ≤ e.g) : St w Hw w2 := by
 refine zL Ha (zL X ?_ hX) hA
 rw [List.nil_append] at h
 exact h
theorem blk_src {w : World} {b o m s i : Nat} {P2 : List Int} (h : Src w (some ⟨b, o, none⟩) m .u8 P2) (hi : i + s ≤ m) : Src w (some ⟨b, o + i, none⟩) s .u8 (blkI P2 s i) := h.cut (l := i) (n := s) (by omega)
theorem seg_src {w : World} {b o m e i : Nat} {P2 : List Int} (h : Src w (some ⟨b, o, none⟩) m .u8 P2) (he : e ≤ i) (hi : i ≤ m) : Src w (some ⟨b, o + e, none⟩) (i - e) .u8 ((P2.take i).drop e) := by
 rw [seg_eq]
 exact h.cut (l := e) (n := i - e) (by omega)
theorem Bytes.blk {P2 : List Int} {s i : Nat} (h : Bytes P2) : Bytes (blkI P2 s i) := (h.drop' i).take' s
theorem cntH_le (n : Nat) (k : Int) : cntH n k ≤ n := by
 unfold cntH; split <;> omega
set_option maxHeartbeats 4000000 in
theorem make8_c (B P2 : List Int) (Ao A2 : Option Addr) (mo co m2 c2 : Nat) (k : Int) (hmo : mo ≤ co) (hm2 : m2 ≤ c2) (hco : co ≤ 9223372036854775807) (hcm2 : c2 ≤ 9223372036854775807) (hmo3 : mo ≤ 300) (hm23 : m2 ≤ 300) (hk : -9223372036854775808 ≤ k ∧ k ≤ 9223372036854775807) (hBB : Bytes B) (hPP : Bytes P2) (w : World) (hsB : Src w Ao mo .u8 B) (hs2 : Src w A2 m2 .u8 P2) (hMX : MaxC w) (h1 : 2 < w.heap.size) (hIV : RowI w 0 0 8 .u32 IV) (hK : RowI w 2 0 64 .u32 KT) : Calls Tryz.prog 22 #[.slice Ao mo co, .slice A2 m2 c2, .int .i64 k] w fun e w' => ∃ A' c' nL Fs He, e = .returned (.agg (dV (mo : Int) (m2 : Int) (shaM B) (shaM P2) (slice A' nL ((c')))).toArray) ∧ (nL ≤ c' ∧ c' ≤ 9223372036854775807) ∧ OwnD w.heap.size A' nL Fs He ∧ (Fs.map valC = cmdsL B P2 k ∧ ∀ x ∈ Fs, x.m = x.B.length) ∧ Fs.length = nL ∧ St w He w' := by
 refine calls_fromM (args := [.slice Ao mo co, .slice A2 m2 c2, .int .i64 k]) Tryz.func22 rfl Tryz.ntmps22 (by simp) ?_
 refine qC [0, 1, 2] ?_
 iterate 2 refine gx ?_
 refine TL.bx1 (fun g1 hg1 => ?_)
 refine TL.bx1 (fun g2 hg2 => ?_)
 refine TL.bx1 (fun g3 hg3 => ?_)
 refine zK (qA rfl) rfl rfl zero26 (cs := [int .i64 0, int .i64 0] ++ ((List.replicate 64 0).map (int .u8) ++ ([slice none 0 0]))) rfl (tot := 67) (by simp) (fun g4 hg4 => ?_)
 iterate 4 refine gx ?_
 refine qb (fun g5 hg5 => ?_)
 iterate 4 refine gx ?_
 refine qb (fun g6 hg6 => ?_)
 refine qy (qA rfl) rfl rfl size3 rfl rfl rfl (i := 0) rfl rfl (by simp [] <;> omega) (cs' := [int .i64 0]) (rfl) (H' := [⟨g6, 3, [int .i64 0], 1⟩, ⟨g5, 24, [slice none 0 0], 1⟩, ⟨g4, 26, [int .i64 0, int .i64 0] ++ ((List.replicate 64 0).map (int .u8) ++ ([slice none 0 0])), 67⟩, ⟨g3, 3, [int .i64 k], 1⟩, ⟨g2, 22, [slice A2 m2 c2], 1⟩, ⟨g1, 22, [slice Ao mo co], 1⟩]) rfl ?_
 iterate 2 refine gx ?_
 refine qC [3, 4, 5, 6, 7, 8] ?_
 iterate 4 refine gx ?_
 refine TL.callB (ι := Nat × Nat × Nat) (V := fun y => .func (.func 73) #[] #[.pointer (some ⟨y.1, 0, none⟩), .pointer (some ⟨y.2.1, 0, none⟩)]) (R := fun y w1 => (∀ e ∈ ([⟨g6, 3, [int .i64 0], 1⟩, ⟨g5, 24, [slice none 0 0], 1⟩, ⟨g4, 26, [int .i64 0, int .i64 0] ++ ((List.replicate 64 0).map (int .u8) ++ ([slice none 0 0])), 67⟩, ⟨g3, 3, [int .i64 k], 1⟩, ⟨g2, 22, [slice A2 m2 c2], 1⟩, ⟨g1, 22, [slice Ao mo co], 1⟩] : List Ent), e.g ≠ y.1 ∧ e.g ≠ y.2.1 ∧ e.g ≠ y.2.2) ∧ FindC w1 y.1 y.2.1 y.2.2 Ao mo co B k) (qA rfl) rfl enters40 rfl rfl (fun w1 hs => (finder_c Ao mo co k B hBB (by omega) hmo hco w1 (hsB.at_ hs (fun b hb => (qD (by show g6 ≠ b; omega) (qD (by show g5 ≠ b; omega) (qD (by show g4 ≠ b; omega) (qD (by show g3 ≠ b; omega) (qD (by show g2 ≠ b; omega) (qD (by show g1 ≠ b; omega) qF))))))))).mono fun e w' ⟨y, he, hR, hw, hF⟩ => ⟨y, he, ⟨fun e he => by have h9 := (hs.has e he).lt; refine ⟨?_, ?_, ?_⟩ <;> omega, hF⟩, hs.call' hw⟩) (fun y w1 hR hs1 => ?_)
 obtain ⟨gm, gf, mb⟩ := y
 obtain ⟨hne, hF1⟩ := hR
 dsimp only at hne hF1 ⊢
 have ng6 := hne _ List.mem_cons_self
 dsimp only at ng6
 have lg6 := (hs1.has _ List.mem_cons_self).lt
 dsimp only at lg6
 have ng5 := hne _ (List.mem_cons_of_mem _ List.mem_cons_self)
 dsimp only at ng5
 have lg5 := (hs1.has _ (List.mem_cons_of_mem _ List.mem_cons_self)).lt
 dsimp only at lg5
 have ng4 := hne _ (List.mem_cons_of_mem _ (List.mem_cons_of_mem _ List.mem_cons_self))
 dsimp only at ng4
 have lg4 := (hs1.has _ (List.mem_cons_of_mem _ (List.mem_cons_of_mem _ List.mem_cons_self))).lt
 dsimp only at lg4
 have ng3 := hne _ (List.mem_cons_of_mem _ (List.mem_cons_of_mem _ (List.mem_cons_of_mem _ List.mem_cons_self)))
 dsimp only at ng3
 have lg3 := (hs1.has _ (List.mem_cons_of_mem _ (List.mem_cons_of_mem _ (List.mem_cons_of_mem _ List.mem_cons_self)))).lt
 dsimp only at lg3
 have ng2 := hne _ (List.mem_cons_of_mem _ (List.mem_cons_of_mem _ (List.mem_cons_of_mem _ (List.mem_cons_of_mem _ List.mem_cons_self))))
 dsimp only at ng2
 have lg2 := (hs1.has _ (List.mem_cons_of_mem _ (List.mem_cons_of_mem _ (List.mem_cons_of_mem _ (List.mem_cons_of_mem _ List.mem_cons_self))))).lt
 dsimp only at lg2
 have ng1 := hne _ (List.mem_cons_of_mem _ (List.mem_cons_of_mem _ (List.mem_cons_of_mem _ (List.mem_cons_of_mem _ (List.mem_cons_of_mem _ List.mem_cons_self)))))
 dsimp only at ng1
 have lg1 := (hs1.has _ (List.mem_cons_of_mem _ (List.mem_cons_of_mem _ (List.mem_cons_of_mem _ (List.mem_cons_of_mem _ (List.mem_cons_of_mem _ List.mem_cons_self)))))).lt
 dsimp only at lg1
 have hwB : St w [] w1 := zL [⟨g6, 3, [int .i64 0], 1⟩, ⟨g5, 24, [slice none 0 0], 1⟩, ⟨g4, 26, [int .i64 0, int .i64 0] ++ ((List.replicate 64 0).map (int .u8) ++ ([slice none 0 0])), 67⟩, ⟨g3, 3, [int .i64 k], 1⟩, ⟨g2, 22, [slice A2 m2 c2], 1⟩, ⟨g1, 22, [slice Ao mo co], 1⟩] (by rw [List.append_nil]; exact hs1) (qI (by assumption) (qI (by assumption) (qI (by assumption) (qI (by assumption) (qI (by assumption) (qI (by assumption) qa))))))
 have hwz := hwB.size
 have hlm := hF1.lm
 have hlf := hF1.lf
 have hlb := hF1.mp.lt
 refine qb (fun g7 hg7 => ?_)
 refine qy (qA rfl) rfl rfl size68 rfl rfl rfl (i := 0) rfl rfl (by simp [] <;> omega) (cs' := [Value.func (.func 73) #[] #[.pointer (some ⟨gm, 0, none⟩), .pointer (some ⟨gf, 0, none⟩)]]) (rfl) (H' := [⟨g7, 68, [Value.func (.func 73) #[] #[.pointer (some ⟨gm, 0, none⟩), .pointer (some ⟨gf, 0, none⟩)]], 1⟩, ⟨g6, 3, [int .i64 0], 1⟩, ⟨g5, 24, [slice none 0 0], 1⟩, ⟨g4, 26, [int .i64 0, int .i64 0] ++ ((List.replicate 64 0).map (int .u8) ++ ([slice none 0 0])), 67⟩, ⟨g3, 3, [int .i64 k], 1⟩, ⟨g2, 22, [slice A2 m2 c2], 1⟩, ⟨g1, 22, [slice Ao mo co], 1⟩]) rfl ?_
 iterate 2 refine gx ?_
 refine qC [3, 4, 5, 6, 7, 8, 9] ?_
 iterate 5 refine gx ?_
 refine qr (ι := Nat × Nat) (V := fun y => .func (.func 75) #[] #[.pointer (some ⟨y.1, 0, none⟩), .pointer (some ⟨y.2, 0, none⟩)]) (R := fun y => w1.heap.size ≤ y.1 ∧ w1.heap.size ≤ y.2) (H' := fun y => [⟨g7, 68, [Value.func (.func 73) #[] #[.pointer (some ⟨gm, 0, none⟩), .pointer (some ⟨gf, 0, none⟩)]], 1⟩, ⟨g6, 3, [int .i64 0], 1⟩, ⟨g5, 24, [slice none 0 0], 1⟩, ⟨g4, 26, [int .i64 0, int .i64 0] ++ ((List.replicate 64 0).map (int .u8) ++ ([slice none 0 0])), 67⟩, ⟨g3, 3, [int .i64 k], 1⟩, ⟨g2, 22, [slice A2 m2 c2], 1⟩, ⟨g1, 22, [slice Ao mo co], 1⟩, ⟨y.1, 3, [int .i64 k], 1⟩, ⟨y.2, 22, [slice A2 m2 c2], 1⟩]) (qA rfl) rfl enters41 rfl rfl (fun w hs => (hashes_c A2 m2 c2 k w).mono fun e w' ⟨y, he, hR, hw⟩ => ⟨y, he, ⟨Nat.le_trans hs.size hR.1, Nat.le_trans hs.size hR.2⟩, st_call hs hw (fun e he => by rcases List.mem_cons.1 he with rfl | he; exact hR.1; rw [List.mem_singleton.1 he]; exact hR.2)⟩) (fun y hR => ?_)
 obtain ⟨gs, gb⟩ := y
 obtain ⟨hgs, hgb⟩ := hR
 dsimp only at hgs hgb ⊢
 iterate 2 refine gx ?_
 refine qC [3, 4, 5, 6, 7, 8, 9, 19] ?_
 refine gx ?_
 have hwz0 := hwB.size
 have ng7 : g7 ≠ gm ∧ g7 ≠ gf ∧ g7 ≠ mb := ⟨by omega, by omega, by omega⟩
 refine TC.rangeX (ι := MkS) (V1 := fun i => .int .i64 (i : Int)) (V2 := fun i => .int .u64 (hshI (blkI P2 k.toNat i))) (N := cntH m2 k) (c := 0) (Cap := capA gs gb A2 m2) rfl rfl rfl rfl rfl enters75 (fun w hs => hash_itC gs gb A2 m2 c2 k P2 hPP (by omega) hm2 hcm2 w ((hs.has (⟨gs, 3, [int .i64 k], 1⟩) (List.mem_of_getElem? (i := 7) rfl)).cell rfl) ((hs.has (⟨gb, 22, [slice A2 m2 c2], 1⟩) (List.mem_of_getElem? (i := 8) rfl)).cell rfl) (hs.has (⟨gs, 3, [int .i64 k], 1⟩) (List.mem_of_getElem? (i := 7) rfl)).lt (hs.has (⟨gb, 22, [slice A2 m2 c2], 1⟩) (List.mem_of_getElem? (i := 8) rfl)).lt (hs2.at_ (hwB.rebase hs (qI (by first | assumption | (dsimp only; omega)) (qI (by first | assumption | (dsimp only; omega)) (qI (by first | assumption | (dsimp only; omega)) (qI (by first | assumption | (dsimp only; omega)) (qI (by first | assumption | (dsimp only; omega)) (qI (by first | assumption | (dsimp only; omega)) (qI (by first | assumption | (dsimp only; omega)) (qI (by first | assumption | (dsimp only; omega)) (qI (by first | assumption | (dsimp only; omega)) qa)))))))))) (fun b hb => (qD (by show g7 ≠ b; omega) (qD (by show g6 ≠ b; omega) (qD (by show g5 ≠ b; omega) (qD (by show g4 ≠ b; omega) (qD (by show g3 ≠ b; omega) (qD (by show g2 ≠ b; omega) (qD (by show g1 ≠ b; omega) (qD (by show gs ≠ b; omega) (qD (by show gb ≠ b; omega) qF)))))))))))) (fun N0 i x => GI B P2 k i x.e x.ps ∧ OwnL N0 54 x.v x.ps x.He ∧ x.ps.length ≤ 2 * i) (fun x => [⟨g7, 68, [Value.func (.func 73) #[] #[.pointer (some ⟨gm, 0, none⟩), .pointer (some ⟨gf, 0, none⟩)]], 1⟩, ⟨g6, 3, [int .i64 (x.e : Int)], 1⟩, ⟨g5, 24, [x.v], 1⟩, ⟨g4, 26, [int .i64 0, int .i64 0] ++ ((List.replicate 64 0).map (int .u8) ++ ([slice none 0 0])), 67⟩, ⟨g3, 3, [int .i64 k], 1⟩, ⟨g2, 22, [slice A2 m2 c2], 1⟩, ⟨g1, 22, [slice Ao mo co], 1⟩]) (fun x => x.He) [g7, g6, g5, g4, g3, g2, g1] (fun i => [(3, .pointer (some ⟨g1, 0, none⟩)), (4, .pointer (some ⟨g2, 0, none⟩)), (5, .pointer (some ⟨g3, 0, none⟩)), (7, .pointer (some ⟨g5, 0, none⟩)), (8, .pointer (some ⟨g6, 0, none⟩)), (9, .pointer (some ⟨g7, 0, none⟩)), (10, .int .i64 (i : Int)), (11, .int .u64 (hshI (blkI P2 k.toNat i)))]) (⟨0, .slice none 0 0, [], []⟩ : MkS) (fun _ => rfl) (fun N0 N1 i x hN h => ⟨h.1, h.2.1.mono hN, h.2.2⟩) (fun N0 _ => ⟨GI.zero _ _ _, OwnL.nil _ _, Nat.le_refl _⟩) (fun w h => ((h.erase (i := 8) rfl (by assumption)).erase (i := 7) rfl (by assumption))) rfl (fun w hs q hk => by rcases hk with h | h | ⟨hm0, ad, hA, h⟩; (exact ⟨by rw [h]; exact (hs.has (⟨gs, 3, [int .i64 k], 1⟩) (List.mem_of_getElem? (i := 7) rfl)).lt, by rw [h]; exact (fun hm => by simp only [List.mem_cons, List.not_mem_nil, or_false] at hm; rcases hm with hm | hm | hm | hm | hm | hm | hm <;> first | exact absurd hm (pairwise_ne hs.apart (i := 7) (j := 0) rfl rfl (by decide)) | exact absurd hm (pairwise_ne hs.apart (i := 7) (j := 1) rfl rfl (by decide)) | exact absurd hm (pairwise_ne hs.apart (i := 7) (j := 2) rfl rfl (by decide)) | exact absurd hm (pairwise_ne hs.apart (i := 7) (j := 3) rfl rfl (by decide)) | exact absurd hm (pairwise_ne hs.apart (i := 7) (j := 4) rfl rfl (by decide)) | exact absurd hm (pairwise_ne hs.apart (i := 7) (j := 5) rfl rfl (by decide)) | exact absurd hm (pairwise_ne hs.apart (i := 7) (j := 6) rfl rfl (by decide)))⟩); (exact ⟨by rw [h]; exact (hs.has (⟨gb, 22, [slice A2 m2 c2], 1⟩) (List.mem_of_getElem? (i := 8) rfl)).lt, by rw [h]; exact (fun hm => by simp only [List.mem_cons, List.not_mem_nil, or_false] at hm; rcases hm with hm | hm | hm | hm | hm | hm | hm <;> first | exact absurd hm (pairwise_ne hs.apart (i := 8) (j := 0) rfl rfl (by decide)) | exact absurd hm (pairwise_ne hs.apart (i := 8) (j := 1) rfl rfl (by decide)) | exact absurd hm (pairwise_ne hs.apart (i := 8) (j := 2) rfl rfl (by decide)) | exact absurd hm (pairwise_ne hs.apart (i := 8) (j := 3) rfl rfl (by decide)) | exact absurd hm (pairwise_ne hs.apart (i := 8) (j := 4) rfl rfl (by decide)) | exact absurd hm (pairwise_ne hs.apart (i := 8) (j := 5) rfl rfl (by decide)) | exact absurd hm (pairwise_ne hs.apart (i := 8) (j := 6) rfl rfl (by decide)))⟩); (have h2 := hs2; rw [hA] at h2; have h3 := h2.blk hm0; exact ⟨by rw [h]; have := hs.size; omega, by rw [h]; simp only [List.mem_cons, List.not_mem_nil, or_false]; omega⟩)) (fun l i v hiN => ?_) (fun l i x B0 hiN hwB0 hC hF hB => ?_) (fun lo x B0 hlo hwB0 hC hF hB hD hgl => ?_)
 ·iterate 5 refine gx ?_
  refine qC [3, 4, 5, 6, 7, 8, 9, 10, 21] ?_
  iterate 3 refine gx ?_
  exact TE.asg (qH (i := 3) rfl (qH (i := 4) rfl (qH (i := 5) rfl (qH (i := 7) rfl (qH (i := 8) rfl (qH (i := 9) rfl (qE (i := 10) rfl (by first | omega | rfl) (qE (i := 11) rfl (by first | rfl | omega) (qK)))))))))
 ·obtain ⟨e0, v, ps, He⟩ := x
  obtain ⟨hGI, hL, hpl⟩ := hC
  dsimp only at hGI hL hpl hF hB ⊢
  have hwB0' : St w [⟨g7, 68, [Value.func (.func 73) #[] #[.pointer (some ⟨gm, 0, none⟩), .pointer (some ⟨gf, 0, none⟩)]], 1⟩, ⟨g6, 3, [int .i64 (e0 : Int)], 1⟩, ⟨g5, 24, [v], 1⟩, ⟨g4, 26, [int .i64 0, int .i64 0] ++ ((List.replicate 64 0).map (int .u8) ++ ([slice none 0 0])), 67⟩, ⟨g3, 3, [int .i64 k], 1⟩, ⟨g2, 22, [slice A2 m2 c2], 1⟩, ⟨g1, 22, [slice Ao mo co], 1⟩] B0 := hwB.rebase hB (qI (by first | assumption | (dsimp only; omega)) (qI (by first | assumption | (dsimp only; omega)) (qI (by first | assumption | (dsimp only; omega)) (qI (by first | assumption | (dsimp only; omega)) (qI (by first | assumption | (dsimp only; omega)) (qI (by first | assumption | (dsimp only; omega)) (qI (by first | assumption | (dsimp only; omega)) qa)))))))
  have hfrC : ∀ e ∈ ([⟨g7, 68, [Value.func (.func 73) #[] #[.pointer (some ⟨gm, 0, none⟩), .pointer (some ⟨gf, 0, none⟩)]], 1⟩, ⟨g6, 3, [int .i64 (e0 : Int)], 1⟩, ⟨g5, 24, [v], 1⟩, ⟨g4, 26, [int .i64 0, int .i64 0] ++ ((List.replicate 64 0).map (int .u8) ++ ([slice none 0 0])), 67⟩, ⟨g3, 3, [int .i64 k], 1⟩, ⟨g2, 22, [slice A2 m2 c2], 1⟩, ⟨g1, 22, [slice Ao mo co], 1⟩] : List Ent), w.heap.size ≤ e.g := (qI (by first | assumption | (dsimp only; omega)) (qI (by first | assumption | (dsimp only; omega)) (qI (by first | assumption | (dsimp only; omega)) (qI (by first | assumption | (dsimp only; omega)) (qI (by first | assumption | (dsimp only; omega)) (qI (by first | assumption | (dsimp only; omega)) (qI (by first | assumption | (dsimp only; omega)) qa)))))))
  have hwB : St w [] B0 := zL [⟨g7, 68, [Value.func (.func 73) #[] #[.pointer (some ⟨gm, 0, none⟩), .pointer (some ⟨gf, 0, none⟩)]], 1⟩, ⟨g6, 3, [int .i64 (e0 : Int)], 1⟩, ⟨g5, 24, [v], 1⟩, ⟨g4, 26, [int .i64 0, int .i64 0] ++ ((List.replicate 64 0).map (int .u8) ++ ([slice none 0 0])), 67⟩, ⟨g3, 3, [int .i64 k], 1⟩, ⟨g2, 22, [slice A2 m2 c2], 1⟩, ⟨g1, 22, [slice Ao mo co], 1⟩] (by rw [List.append_nil]; exact hwB0') hfrC
  have hwz := hwB.size
  have hP2l := hs2.1
  have hBl := hsB.1
  have hFb : FindC B0 gm gf mb Ao mo co B k := hF1.at_ hB (List.forall_mem_cons.2 ⟨ng7, (List.forall_mem_cons.2 ⟨ng6, (List.forall_mem_cons.2 ⟨ng5, (List.forall_mem_cons.2 ⟨ng4, (List.forall_mem_cons.2 ⟨ng3, (List.forall_mem_cons.2 ⟨ng2, (List.forall_mem_cons.2 ⟨ng1, (fun e he => absurd he List.not_mem_nil)⟩)⟩)⟩)⟩)⟩)⟩)⟩)
  have hMb : MaxC B0 := hMX.at_ hwB (by simp)
  have hlm := hFb.lm
  have hlf := hFb.lf
  have hlb := hFb.mp.lt
  have hlM := hMb.1
  have hMw := hMX.1
  have hcnt := cntH_lt hiN
  obtain ⟨s, rfl⟩ : ∃ s : Nat, k = s := ⟨k.toNat, by omega⟩
  obtain ⟨b2, o2, hA2, hb2, hr2⟩ := hs2.2.resolve_left (by omega)
  subst hA2
  simp only [Int.toNat_natCast]
  have hle := hGI.le
  iterate 9 refine gx ?_
  refine qC [3, 4, 5, 7, 8, 9, 10, 11, 24] ?_
  refine qQ rfl (fun hq0 => ?_) (fun hq0 => ?_)
  ·iterate 3 refine gx ?_
   exact TE.roundX (⟨e0, v, ps, He⟩ : MkS) ⟨hGI.skip (by omega), hL, by show ps.length ≤ 2 * (i + 1); omega⟩ hF (fun w h => h)
  ·iterate 2 refine gx ?_
   refine qC [3, 4, 5, 7, 8, 9, 10, 11] ?_
   refine gx ?_
   obtain ⟨rq, hrq⟩ : ∃ rq : Int, rq = occI B (blkI P2 s i) (s : Int) := ⟨_, rfl⟩
   have hoc := occ_cases B (blkI P2 s i) (s : Int)
   rw [← hrq, match_blk (by omega) (by omega)] at hoc
   refine qs (hok := ⟨fun ⟨_, _, h⟩ => (show False from h), by kernel_rfl⟩) (by kernel_rfl) [1, 1, 0, 0, 1, 0, 0, 0, 1, 0] rfl (by kernel_rfl) ?_
   iterate 5 refine gx ?_
   refine qG (qA rfl) rfl (fun _ => qU rfl rfl rfl (r := ((i : Int) + (s : Int))) (w64 (by omega) (by omega))) ?_
   refine qG (qA rfl) rfl (fun _ => zG rfl Tryz.underlying22 size5 rfl (bnd.at_ (l := i) rfl (by omega)) (bnd.at_ (l := (i + s)) rfl (by omega)) (by omega) (by omega) (A' := some ⟨b2, (o2 + i), none⟩) (cut_is (by omega) (by omega)) (ln := s) (cp := (c2 - i)) (by omega) (by omega)) ?_
   refine gx ?_
   refine TM.call0F (qA rfl) rfl enters73 rfl rfl rfl (v := .int .i64 rq) (fun w hs => (ffind_c gm gf mb Ao mo co B s (some ⟨b2, (o2 + i), none⟩) s (c2 - i) (blkI P2 s i) (by omega) rfl hmo hco (by omega) (by omega) hBB (hPP.blk) w (hFb.at_ hs (ne_app3 (List.forall_mem_cons.2 ⟨ng7, (List.forall_mem_cons.2 ⟨ng6, (List.forall_mem_cons.2 ⟨ng5, (List.forall_mem_cons.2 ⟨ng4, (List.forall_mem_cons.2 ⟨ng3, (List.forall_mem_cons.2 ⟨ng2, (List.forall_mem_cons.2 ⟨ng1, (fun e he => absurd he List.not_mem_nil)⟩)⟩)⟩)⟩)⟩)⟩)⟩) (fun e he => by have h9 := hF e he; refine ⟨?_, ?_, ?_⟩ <;> omega))) (hsB.at_ (hwB.rebase hs (qt (qI (by first | assumption | (dsimp only; omega)) (qI (by first | assumption | (dsimp only; omega)) (qI (by first | assumption | (dsimp only; omega)) (qI (by first | assumption | (dsimp only; omega)) (qI (by first | assumption | (dsimp only; omega)) (qI (by first | assumption | (dsimp only; omega)) (qI (by first | assumption | (dsimp only; omega)) qa))))))) (fun e he => Nat.le_trans hwz (hF e he)))) (fun b hb => (qY (qD (by show g7 ≠ b; omega) (qD (by show g6 ≠ b; omega) (qD (by show g5 ≠ b; omega) (qD (by show g4 ≠ b; omega) (qD (by show g3 ≠ b; omega) (qD (by show g2 ≠ b; omega) (qD (by show g1 ≠ b; omega) qF))))))) (Fresh.ne hF (Nat.lt_of_lt_of_le hb hwz))))) (blk_src (((hs2.at_ (hwB.rebase hs (qt (qI (by first | assumption | (dsimp only; omega)) (qI (by first | assumption | (dsimp only; omega)) (qI (by first | assumption | (dsimp only; omega)) (qI (by first | assumption | (dsimp only; omega)) (qI (by first | assumption | (dsimp only; omega)) (qI (by first | assumption | (dsimp only; omega)) (qI (by first | assumption | (dsimp only; omega)) qa))))))) (fun e he => Nat.le_trans hwz (hF e he)))) (fun b hb => (qY (qD (by show g7 ≠ b; omega) (qD (by show g6 ≠ b; omega) (qD (by show g5 ≠ b; omega) (qD (by show g4 ≠ b; omega) (qD (by show g3 ≠ b; omega) (qD (by show g2 ≠ b; omega) (qD (by show g1 ≠ b; omega) qF))))))) (Fresh.ne hF (Nat.lt_of_lt_of_le hb hwz)))))) : Src _ (some ⟨b2, o2, none⟩) m2 .u8 P2) (s := s) (i := i) (by omega)) (hMb.at_ hs (qY (qD (by show g7 ≠ 1; omega) (qD (by show g6 ≠ 1; omega) (qD (by show g5 ≠ 1; omega) (qD (by show g4 ≠ 1; omega) (qD (by show g3 ≠ 1; omega) (qD (by show g2 ≠ 1; omega) (qD (by show g1 ≠ 1; omega) qF))))))) (hF.ne hlM)))).mono fun e w' h => by rw [← hrq] at h; exact h) ?_
   iterate 3 refine gx ?_
   refine qC [3, 4, 7, 8, 10, 12] ?_
   iterate 7 refine gx ?_
   refine qQ rfl (fun hq1 => ?_) (fun hq1 => ?_)
   ·have hmq := (hoc.resolve_right (by rintro ⟨q, h, _⟩; omega)).2
    iterate 3 refine gx ?_
    exact TE.roundX (⟨e0, v, ps, He⟩ : MkS) ⟨hGI.lit (by omega) (by omega) hmq, hL, by show ps.length ≤ 2 * (i + 1); omega⟩ hF (fun w h => h)
   ·obtain ⟨q, hq, hmq⟩ := hoc.resolve_left (by rintro ⟨h, _⟩; omega)
    subst hq
    have hsp := matchI_spec hmq
    obtain ⟨nn, hnn⟩ : ∃ nn : Nat, nn = eqN (B.drop q) (P2.drop i) := ⟨_, rfl⟩
    rw [← hnn, List.length_drop] at hsp
    obtain ⟨bo, oo, hAo, hbo, hro⟩ := hsB.2.resolve_left (by omega)
    subst hAo
    iterate 3 refine gx ?_
    refine qs (hok := ⟨fun ⟨_, _, h⟩ => (show False from h), by kernel_rfl⟩) (by kernel_rfl) [1, 0, 0, 1, 0, 0, 1, 0] rfl (by kernel_rfl) ?_
    refine qX (qA rfl) rfl (qJ rfl agg22 rfl (qO (i := 6) (ent := ⟨g1, 22, [slice (some ⟨bo, oo, none⟩) mo co], 1⟩) (off := 0) rfl rfl (by exact rfl))) ?_
    refine gx ?_
    refine qG (qA rfl) rfl (fun _ => zG rfl Tryz.underlying22 size5 rfl (bnd.at_ (l := q) rfl (by omega)) bnd.dflt (by omega) (by omega) (A' := some ⟨bo, (oo + q), none⟩) (cut_is (by omega) (by omega)) (ln := (mo - q)) (cp := (co - q)) (by omega) (by omega)) ?_
    iterate 2 refine gx ?_
    refine qG (qA rfl) rfl (fun _ => zG rfl Tryz.underlying22 size5 rfl (bnd.at_ (l := i) rfl (by omega)) bnd.dflt (by omega) (by omega) (A' := some ⟨b2, (o2 + i), none⟩) (cut_is (by omega) (by omega)) (ln := (m2 - i)) (cp := (c2 - i)) (by omega) (by omega)) ?_
    refine TM.call0 (qA rfl) rfl enters42 rfl rfl (v := .int .i64 (nn : Int)) (fun w hs => (common_c (B.drop q) (P2.drop i) (some ⟨bo, (oo + q), none⟩) (some ⟨b2, (o2 + i), none⟩) (mo - q) (co - q) (m2 - i) (c2 - i) w ((((hsB.at_ (hwB.rebase hs (qt (qI (by first | assumption | (dsimp only; omega)) (qI (by first | assumption | (dsimp only; omega)) (qI (by first | assumption | (dsimp only; omega)) (qI (by first | assumption | (dsimp only; omega)) (qI (by first | assumption | (dsimp only; omega)) (qI (by first | assumption | (dsimp only; omega)) (qI (by first | assumption | (dsimp only; omega)) qa))))))) (fun e he => Nat.le_trans hwz (hF e he)))) (fun b hb => (qY (qD (by show g7 ≠ b; omega) (qD (by show g6 ≠ b; omega) (qD (by show g5 ≠ b; omega) (qD (by show g4 ≠ b; omega) (qD (by show g3 ≠ b; omega) (qD (by show g2 ≠ b; omega) (qD (by show g1 ≠ b; omega) qF))))))) (Fresh.ne hF (Nat.lt_of_lt_of_le hb hwz)))))) : Src _ (some ⟨bo, oo, none⟩) mo .u8 B).dropS (q := q) (by omega)) ((((hs2.at_ (hwB.rebase hs (qt (qI (by first | assumption | (dsimp only; omega)) (qI (by first | assumption | (dsimp only; omega)) (qI (by first | assumption | (dsimp only; omega)) (qI (by first | assumption | (dsimp only; omega)) (qI (by first | assumption | (dsimp only; omega)) (qI (by first | assumption | (dsimp only; omega)) (qI (by first | assumption | (dsimp only; omega)) qa))))))) (fun e he => Nat.le_trans hwz (hF e he)))) (fun b hb => (qY (qD (by show g7 ≠ b; omega) (qD (by show g6 ≠ b; omega) (qD (by show g5 ≠ b; omega) (qD (by show g4 ≠ b; omega) (qD (by show g3 ≠ b; omega) (qD (by show g2 ≠ b; omega) (qD (by show g1 ≠ b; omega) qF))))))) (Fresh.ne hF (Nat.lt_of_lt_of_le hb hwz)))))) : Src _ (some ⟨b2, o2, none⟩) m2 .u8 P2).dropS (q := i) (by omega)) (by omega) (by omega) (by omega) (by omega) _ rfl).mono fun e w' h => by rw [← hnn] at h; exact h) ?_
    iterate 3 refine gx ?_
    refine qC [4, 7, 8, 10, 12, 13] ?_
    refine gx ?_
    refine TC.heap (H' := [⟨g7, 68, [Value.func (.func 73) #[] #[.pointer (some ⟨gm, 0, none⟩), .pointer (some ⟨gf, 0, none⟩)]], 1⟩, ⟨g6, 3, [int .i64 (e0 : Int)], 1⟩, ⟨g5, 24, [v], 1⟩, ⟨g4, 26, [int .i64 0, int .i64 0] ++ ((List.replicate 64 0).map (int .u8) ++ ([slice none 0 0])), 67⟩, ⟨g3, 3, [int .i64 (s : Int)], 1⟩, ⟨g2, 22, [slice (some ⟨b2, o2, none⟩) m2 c2], 1⟩, ⟨g1, 22, [slice (some ⟨bo, oo, none⟩) mo co], 1⟩] ++ ([] ++ He)) (fun w h => h) ?_
    refine TC.mixBn (hok := ⟨fun ⟨_, _, h⟩ => (show False from h), by kernel_rfl⟩) (HB := [Ent.mk g7 68 ([Value.func (.func 73) #[] #[.pointer (some ⟨gm, 0, none⟩), .pointer (some ⟨gf, 0, none⟩)]]) 1, Ent.mk g6 3 ([int .i64 (e0 : Int)]) 1, Ent.mk g5 24 ([v]) 1, Ent.mk g4 26 ([int .i64 0, int .i64 0] ++ ((List.replicate 64 0).map (int .u8) ++ ([slice none 0 0]))) 67, Ent.mk g3 3 ([int .i64 (s : Int)]) 1, Ent.mk g2 22 ([slice (some ⟨b2, o2, none⟩) m2 c2]) 1, Ent.mk g1 22 ([slice (some ⟨bo, oo, none⟩) mo co]) 1]) (H := [] ++ He) (by kernel_rfl) [0, 0, 0, 0, 0, 0, 3, 0, 0, 0, 3, 3, 3, 7] [0, 1, 2, 3, 4, 5, 7, 8, 9, 6, 10, 11, 12, 13] (by kernel_rfl) ?_
    refine TP.stay (qA rfl) rfl (fun H' => qJ rfl agg24 rfl (qO (i := 2) (ent := ⟨g5, 24, [v], 1⟩) (off := 0) rfl rfl (by exact rfl))) ?_
    refine TP.stay (qA rfl) rfl (fun H' => qJ rfl agg3 rfl (qO (i := 1) (ent := ⟨g6, 3, [int .i64 (e0 : Int)], 1⟩) (off := 0) rfl rfl (by exact rfl))) ?_
    refine TP.stay (qA rfl) rfl (fun H' => qJ rfl agg22 rfl (qO (i := 5) (ent := ⟨g2, 22, [slice (some ⟨b2, o2, none⟩) m2 c2], 1⟩) (off := 0) rfl rfl (by exact rfl))) ?_
    refine TP.stay (qA rfl) rfl (fun H' => qJ rfl agg3 rfl (qO (i := 1) (ent := ⟨g6, 3, [int .i64 (e0 : Int)], 1⟩) (off := 0) rfl rfl (by exact rfl))) ?_
    refine qw (qA rfl) rfl (fun _ => qV rfl rfl) ?_
    refine qw (qA rfl) rfl (fun _ => zG rfl Tryz.underlying22 size5 rfl (bnd.at_ (l := e0) rfl (by omega)) (bnd.at_ (l := i) rfl (by omega)) (by omega) (by omega) (A' := some ⟨b2, (o2 + e0), none⟩) (cut_is (by omega) (by omega)) (ln := (i - e0)) (cp := (c2 - e0)) (by omega) (by omega)) ?_
    refine qw (qA rfl) rfl (fun _ => qV rfl rfl) ?_
    refine qw (qA rfl) rfl (fun _ => qV rfl rfl) ?_
    refine qw (qA rfl) rfl (fun _ => qV rfl rfl) ?_
    refine TP.call (ι := Value × List Ent) (V := fun y => y.1) (R := fun y => OwnL B0.heap.size 54 y.1 (ps ++ litP e0 ((P2.take i).drop e0)) y.2) (H' := fun y => [] ++ y.2) (qA rfl) rfl enters43 rfl rfl (fun w hs => (addlit_c B0 w [Ent.mk g7 68 ([Value.func (.func 73) #[] #[.pointer (some ⟨gm, 0, none⟩), .pointer (some ⟨gf, 0, none⟩)]]) 1, Ent.mk g6 3 ([int .i64 (e0 : Int)]) 1, Ent.mk g5 24 ([v]) 1, Ent.mk g4 26 ([int .i64 0, int .i64 0] ++ ((List.replicate 64 0).map (int .u8) ++ ([slice none 0 0]))) 67, Ent.mk g3 3 ([int .i64 (s : Int)]) 1, Ent.mk g2 22 ([slice (some ⟨b2, o2, none⟩) m2 c2]) 1, Ent.mk g1 22 ([slice (some ⟨bo, oo, none⟩) mo co]) 1] He v ps e0 (some ⟨b2, (o2 + e0), none⟩) (i - e0) (c2 - e0) ((P2.take i).drop e0) (by omega) (by omega) (by omega) (by omega) (by omega) hs hL (seg_src (((hs2.at_ (hwB.rebase hs (qt (qI (by first | assumption | (dsimp only; omega)) (qI (by first | assumption | (dsimp only; omega)) (qI (by first | assumption | (dsimp only; omega)) (qI (by first | assumption | (dsimp only; omega)) (qI (by first | assumption | (dsimp only; omega)) (qI (by first | assumption | (dsimp only; omega)) (qI (by first | assumption | (dsimp only; omega)) qa))))))) (fun e he => Nat.le_trans hwz (hF e he)))) (fun b hb => (qY (qD (by show g7 ≠ b; omega) (qD (by show g6 ≠ b; omega) (qD (by show g5 ≠ b; omega) (qD (by show g4 ≠ b; omega) (qD (by show g3 ≠ b; omega) (qD (by show g2 ≠ b; omega) (qD (by show g1 ≠ b; omega) qF))))))) (Fresh.ne hF (Nat.lt_of_lt_of_le hb hwz)))))) : Src _ (some ⟨b2, o2, none⟩) m2 .u8 P2) (e := e0) (i := i) (by omega) (by omega)) ((hPP.take' i).drop' e0)).mono fun e w' ⟨v', He', he, hL', hst⟩ => ⟨(v', He'), he, hL', hst⟩) (fun y hLa => ?_)
    obtain ⟨va, Ha⟩ := y
    dsimp only at hLa ⊢
    have hFa : Fresh B0 Ha := hLa.new
    refine TP.call (ι := Unit) (V := fun _ => .agg ([int .i64 1, int .i64 (i : Int), int .i64 (q : Int), int .i64 (nn : Int), slice none 0 0]).toArray) (R := fun _ => True) (H' := fun _ => [] ++ Ha) (qA rfl) rfl enters44 rfl rfl (fun w hs => (copy_c (i : Int) (q : Int) (nn : Int) w).mono fun e w' ⟨he, hw⟩ => ⟨(), he, trivial, hs.call' hw⟩) (fun _ _ => ?_)
    refine TP.buildSlice (qA rfl) rfl rfl Tryz.underlying24 size54 zero54 rfl (by decide) (by decide) (cells := #[.int .i64 1, .int .i64 (i : Int), .int .i64 (q : Int), .int .i64 (nn : Int), .slice none 0 0]) (tot := 5) (by kernel_rfl) (cs := [.int .i64 1, .int .i64 (i : Int), .int .i64 (q : Int), .int .i64 (nn : Int), .slice none 0 0]) rfl rfl (fun g8 hg8 => ?_)
    obtain ⟨Cs1, Hs1, Hd1, hCv1, hCm1, hHa, hS1, hD1⟩ := hLa
    subst hHa
    have hCl1 : Cs1.length ≤ 3000000 := by rw [← List.length_map (f := valC), hCv1, List.length_append]; have := litP_len e0 ((P2.take i).drop e0); omega
    refine TP.perm (H' := (([Ent.mk g8 54 ([int .i64 1, int .i64 (i : Int), int .i64 (q : Int), int .i64 (nn : Int), slice none 0 0]) 5] ++ Hd1) ++ Hs1)) (by show ([Ent.mk g8 54 ([int .i64 1, int .i64 (i : Int), int .i64 (q : Int), int .i64 (nn : Int), slice none 0 0]) 5] ++ (Hs1 ++ Hd1)).Perm _; rw [List.append_assoc]; exact List.Perm.append_left _ List.perm_append_comm) ?_
    refine TP.appendS (H0 := [Ent.mk g8 54 ([int .i64 1, int .i64 (i : Int), int .i64 (q : Int), int .i64 (nn : Int), slice none 0 0]) 5] ++ Hd1) (He := Hs1) (qA rfl) rfl rfl Tryz.underlying24 mk54 rfl (by decide) rfl rfl (s := 5) (nn := Cs1.length) (m := 1) (cs := flatC Cs1) (news := cellsC ⟨1, (i : Int), (q : Int), (nn : Int), none, 0, 0, []⟩) hS1 rfl (fun w hs => lies_srcV (hs.has (Ent.mk g8 54 ([int .i64 1, int .i64 (i : Int), int .i64 (q : Int), int .i64 (nn : Int), slice none 0 0]) 5) (by simp))) (by intro u hu; exact flatC_one' [⟨1, (i : Int), (q : Int), (nn : Int), none, 0, 0, []⟩] u (by rw [flatC_one]; exact hu)) (by unfold maxLen; omega) (by omega) (fun v3 Hs3 hS3 => ?_)
    obtain ⟨A3, c3, hv3, hc31, hc32⟩ := hS3.form
    subst hv3
    have hF3 : Fresh B0 (Hd1 ++ Hs3) := qt hD1.1 hS3.new
    refine TP.last1 (qA rfl) rfl rfl size24 rfl rfl rfl (i := 2) rfl rfl (by simp [] <;> omega) (cs' := [slice A3 (((Cs1.length + 1))) c3]) (rfl) (H' := [⟨g7, 68, [Value.func (.func 73) #[] #[.pointer (some ⟨gm, 0, none⟩), .pointer (some ⟨gf, 0, none⟩)]], 1⟩, ⟨g6, 3, [int .i64 (e0 : Int)], 1⟩, ⟨g5, 24, [slice A3 (((Cs1.length + 1))) c3], 1⟩, ⟨g4, 26, [int .i64 0, int .i64 0] ++ ((List.replicate 64 0).map (int .u8) ++ ([slice none 0 0])), 67⟩, ⟨g3, 3, [int .i64 (s : Int)], 1⟩, ⟨g2, 22, [slice (some ⟨b2, o2, none⟩) m2 c2], 1⟩, ⟨g1, 22, [slice (some ⟨bo, oo, none⟩) mo co], 1⟩, ⟨g8, 54, [int .i64 1, int .i64 (i : Int), int .i64 (q : Int), int .i64 (nn : Int), slice none 0 0], 5⟩] ++ (Hd1 ++ Hs3)) rfl ?_
    refine gx ?_
    refine qC [8, 10, 13] ?_
    iterate 3 refine gx ?_
    refine qB (qA rfl) rfl (qU rfl rfl rfl (r := ((i : Int) + (nn : Int))) (w64 (by omega) (by omega))) ?_
    refine qy (qA rfl) rfl rfl size3 rfl rfl rfl (i := 1) rfl rfl (by simp [] <;> omega) (cs' := [int .i64 ((i : Int) + (nn : Int))]) (rfl) (H' := [⟨g7, 68, [Value.func (.func 73) #[] #[.pointer (some ⟨gm, 0, none⟩), .pointer (some ⟨gf, 0, none⟩)]], 1⟩, ⟨g6, 3, [int .i64 ((i : Int) + (nn : Int))], 1⟩, ⟨g5, 24, [slice A3 (((Cs1.length + 1))) c3], 1⟩, ⟨g4, 26, [int .i64 0, int .i64 0] ++ ((List.replicate 64 0).map (int .u8) ++ ([slice none 0 0])), 67⟩, ⟨g3, 3, [int .i64 (s : Int)], 1⟩, ⟨g2, 22, [slice (some ⟨b2, o2, none⟩) m2 c2], 1⟩, ⟨g1, 22, [slice (some ⟨bo, oo, none⟩) mo co], 1⟩, ⟨g8, 54, [int .i64 1, int .i64 (i : Int), int .i64 (q : Int), int .i64 (nn : Int), slice none 0 0], 5⟩] ++ (Hd1 ++ Hs3)) rfl ?_
    iterate 2 refine gx ?_
    exact TE.roundX (⟨i + nn, slice A3 (Cs1.length + 1) c3, (ps ++ litP e0 ((P2.take i).drop e0)) ++ [(1, (i : Int), (q : Int), (nn : Int), [])], Hs3 ++ Hd1⟩ : MkS) ⟨by show GI B P2 (s : Int) (i + 1) (i + nn) _; rw [hnn]; exact hGI.copy (by omega) (by omega) hmq, ⟨Cs1 ++ [⟨1, (i : Int), (q : Int), (nn : Int), none, 0, 0, []⟩], Hs3, Hd1, by rw [List.map_append, hCv1]; rfl, ms_add hCm1 rfl, rfl, by rw [List.length_append, flatC_app, flatC_one]; exact hS3, hD1.addC (by unfold NumC; dsimp only; omega)⟩, by simp only [List.length_append, List.length_singleton]; have := litP_len e0 ((P2.take i).drop e0); omega⟩ (qt hS3.new hD1.1) (fun w h => roundx_keep (Hc := [Ent.mk g7 68 ([Value.func (.func 73) #[] #[.pointer (some ⟨gm, 0, none⟩), .pointer (some ⟨gf, 0, none⟩)]]) 1, Ent.mk g6 3 ([int .i64 ((i : Int) + (nn : Int))]) 1, Ent.mk g5 24 ([slice A3 (((Cs1.length + 1))) c3]) 1, Ent.mk g4 26 ([int .i64 0, int .i64 0] ++ ((List.replicate 64 0).map (int .u8) ++ ([slice none 0 0]))) 67, Ent.mk g3 3 ([int .i64 (s : Int)]) 1, Ent.mk g2 22 ([slice (some ⟨b2, o2, none⟩) m2 c2]) 1, Ent.mk g1 22 ([slice (some ⟨bo, oo, none⟩) mo co]) 1]) (d := Ent.mk g8 54 ([int .i64 1, int .i64 (i : Int), int .i64 (q : Int), int .i64 (nn : Int), slice none 0 0]) 5) h (by assumption))
 ·obtain ⟨e0, v, ps, He⟩ := x
  obtain ⟨hGI, hL, hpl⟩ := hC
  dsimp only at hGI hL hpl hF hB ⊢
  have hwB0' : St w [⟨g7, 68, [Value.func (.func 73) #[] #[.pointer (some ⟨gm, 0, none⟩), .pointer (some ⟨gf, 0, none⟩)]], 1⟩, ⟨g6, 3, [int .i64 (e0 : Int)], 1⟩, ⟨g5, 24, [v], 1⟩, ⟨g4, 26, [int .i64 0, int .i64 0] ++ ((List.replicate 64 0).map (int .u8) ++ ([slice none 0 0])), 67⟩, ⟨g3, 3, [int .i64 k], 1⟩, ⟨g2, 22, [slice A2 m2 c2], 1⟩, ⟨g1, 22, [slice Ao mo co], 1⟩] B0 := hwB.rebase hB (qI (by first | assumption | (dsimp only; omega)) (qI (by first | assumption | (dsimp only; omega)) (qI (by first | assumption | (dsimp only; omega)) (qI (by first | assumption | (dsimp only; omega)) (qI (by first | assumption | (dsimp only; omega)) (qI (by first | assumption | (dsimp only; omega)) (qI (by first | assumption | (dsimp only; omega)) qa)))))))
  have hfrC : ∀ e ∈ ([⟨g7, 68, [Value.func (.func 73) #[] #[.pointer (some ⟨gm, 0, none⟩), .pointer (some ⟨gf, 0, none⟩)]], 1⟩, ⟨g6, 3, [int .i64 (e0 : Int)], 1⟩, ⟨g5, 24, [v], 1⟩, ⟨g4, 26, [int .i64 0, int .i64 0] ++ ((List.replicate 64 0).map (int .u8) ++ ([slice none 0 0])), 67⟩, ⟨g3, 3, [int .i64 k], 1⟩, ⟨g2, 22, [slice A2 m2 c2], 1⟩, ⟨g1, 22, [slice Ao mo co], 1⟩] : List Ent), w.heap.size ≤ e.g := (qI (by first | assumption | (dsimp only; omega)) (qI (by first | assumption | (dsimp only; omega)) (qI (by first | assumption | (dsimp only; omega)) (qI (by first | assumption | (dsimp only; omega)) (qI (by first | assumption | (dsimp only; omega)) (qI (by first | assumption | (dsimp only; omega)) (qI (by first | assumption | (dsimp only; omega)) qa)))))))
  have hwB : St w [] B0 := zL [⟨g7, 68, [Value.func (.func 73) #[] #[.pointer (some ⟨gm, 0, none⟩), .pointer (some ⟨gf, 0, none⟩)]], 1⟩, ⟨g6, 3, [int .i64 (e0 : Int)], 1⟩, ⟨g5, 24, [v], 1⟩, ⟨g4, 26, [int .i64 0, int .i64 0] ++ ((List.replicate 64 0).map (int .u8) ++ ([slice none 0 0])), 67⟩, ⟨g3, 3, [int .i64 k], 1⟩, ⟨g2, 22, [slice A2 m2 c2], 1⟩, ⟨g1, 22, [slice Ao mo co], 1⟩] (by rw [List.append_nil]; exact hwB0') hfrC
  have hwz := hwB.size
  have hP2l := hs2.1
  have hBl := hsB.1
  have hle := hGI.le
  have hGI2 : GI B P2 k (cntH P2.length k) e0 ps := by rw [hP2l]; exact hGI
  have hcm := cntH_le m2 k
  have h1b := Nat.lt_of_lt_of_le h1 hwB.size
  have hIVb := hIV.keepH hwB (show 0 < _ by omega) qF
  have hKb := hK.keepH hwB (show 2 < _ by omega) qF
  iterate 3 refine gx ?_
  refine TC.heap (H' := [⟨g7, 68, [Value.func (.func 73) #[] #[.pointer (some ⟨gm, 0, none⟩), .pointer (some ⟨gf, 0, none⟩)]], 1⟩, ⟨g6, 3, [int .i64 (e0 : Int)], 1⟩, ⟨g5, 24, [v], 1⟩, ⟨g4, 26, [int .i64 0, int .i64 0] ++ ((List.replicate 64 0).map (int .u8) ++ ([slice none 0 0])), 67⟩, ⟨g3, 3, [int .i64 k], 1⟩, ⟨g2, 22, [slice A2 m2 c2], 1⟩, ⟨g1, 22, [slice Ao mo co], 1⟩] ++ ([] ++ He)) (fun w h => h) ?_
  refine TC.mixB (HB := [Ent.mk g7 68 ([Value.func (.func 73) #[] #[.pointer (some ⟨gm, 0, none⟩), .pointer (some ⟨gf, 0, none⟩)]]) 1, Ent.mk g6 3 ([int .i64 (e0 : Int)]) 1, Ent.mk g5 24 ([v]) 1, Ent.mk g4 26 ([int .i64 0, int .i64 0] ++ ((List.replicate 64 0).map (int .u8) ++ ([slice none 0 0]))) 67, Ent.mk g3 3 ([int .i64 k]) 1, Ent.mk g2 22 ([slice A2 m2 c2]) 1, Ent.mk g1 22 ([slice Ao mo co]) 1]) (H := [] ++ He) (by kernel_rfl) [0, 0, 0, 0, 0, 0, 0, 3, 3, 7] [0, 1, 2, 3, 4, 5, 6, 7, 8, 9] (by kernel_rfl) ?_
  refine TP.stay (qA rfl) rfl (fun H' => qJ rfl agg22 rfl (qO (i := 6) (ent := ⟨g1, 22, [slice Ao mo co], 1⟩) (off := 0) rfl rfl (by exact rfl))) ?_
  refine TP.stay (qA rfl) rfl (fun H' => qJ rfl agg22 rfl (qO (i := 5) (ent := ⟨g2, 22, [slice A2 m2 c2], 1⟩) (off := 0) rfl rfl (by exact rfl))) ?_
  refine TP.stay (qA rfl) rfl (fun H' => qJ rfl agg24 rfl (qO (i := 2) (ent := ⟨g5, 24, [v], 1⟩) (off := 0) rfl rfl (by exact rfl))) ?_
  refine TP.stay (qA rfl) rfl (fun H' => qJ rfl agg3 rfl (qO (i := 1) (ent := ⟨g6, 3, [int .i64 (e0 : Int)], 1⟩) (off := 0) rfl rfl (by exact rfl))) ?_
  refine TP.stay (qA rfl) rfl (fun H' => qJ rfl agg22 rfl (qO (i := 5) (ent := ⟨g2, 22, [slice A2 m2 c2], 1⟩) (off := 0) rfl rfl (by exact rfl))) ?_
  refine TP.stay (qA rfl) rfl (fun H' => qJ rfl agg3 rfl (qO (i := 1) (ent := ⟨g6, 3, [int .i64 (e0 : Int)], 1⟩) (off := 0) rfl rfl (by exact rfl))) ?_
  refine qw (qA rfl) rfl (fun _ => zG rfl Tryz.underlying22 size5 rfl (bnd.at_ (l := e0) rfl (by omega)) bnd.dflt (by omega) (by omega) rfl (ln := (m2 - e0)) (cp := (c2 - e0)) (by omega) (by omega)) ?_
  refine TP.call (ι := Value × List Ent) (V := fun y => y.1) (R := fun y => OwnL B0.heap.size 54 y.1 (ps ++ litP e0 (P2.drop e0)) y.2) (H' := fun y => [] ++ y.2) (qA rfl) rfl enters43 rfl rfl (fun w hs => (addlit_c B0 w [Ent.mk g7 68 ([Value.func (.func 73) #[] #[.pointer (some ⟨gm, 0, none⟩), .pointer (some ⟨gf, 0, none⟩)]]) 1, Ent.mk g6 3 ([int .i64 (e0 : Int)]) 1, Ent.mk g5 24 ([v]) 1, Ent.mk g4 26 ([int .i64 0, int .i64 0] ++ ((List.replicate 64 0).map (int .u8) ++ ([slice none 0 0]))) 67, Ent.mk g3 3 ([int .i64 k]) 1, Ent.mk g2 22 ([slice A2 m2 c2]) 1, Ent.mk g1 22 ([slice Ao mo co]) 1] He v ps e0 (cutA A2 c2 e0 1) (m2 - e0) (c2 - e0) (P2.drop e0) (by omega) (by omega) (by omega) (by omega) (by omega) hs hL ((((hs2.at_ (hwB.rebase hs (qt (qI (by first | assumption | (dsimp only; omega)) (qI (by first | assumption | (dsimp only; omega)) (qI (by first | assumption | (dsimp only; omega)) (qI (by first | assumption | (dsimp only; omega)) (qI (by first | assumption | (dsimp only; omega)) (qI (by first | assumption | (dsimp only; omega)) (qI (by first | assumption | (dsimp only; omega)) qa))))))) (fun e he => Nat.le_trans hwz (hF e he)))) (fun b hb => (qY (qD (by show g7 ≠ b; omega) (qD (by show g6 ≠ b; omega) (qD (by show g5 ≠ b; omega) (qD (by show g4 ≠ b; omega) (qD (by show g3 ≠ b; omega) (qD (by show g2 ≠ b; omega) (qD (by show g1 ≠ b; omega) qF))))))) (Fresh.ne hF (Nat.lt_of_lt_of_le hb hwz)))))).toX0.drop (l := e0) (by omega) hm2).src) (hPP.drop' e0)).mono fun e w' ⟨v', He', he, hL', hst⟩ => ⟨(v', He'), he, hL', hst⟩) (fun y hLa => ?_)
  obtain ⟨va, Ha⟩ := y
  dsimp only at hLa ⊢
  have hFa : Fresh B0 Ha := hLa.new
  have hpl2 : (ps ++ litP e0 (P2.drop e0)).length ≤ 601 := by rw [List.length_append]; have := litP_len e0 (P2.drop e0); omega
  rw [hGI2.end_] at hLa hpl2
  obtain ⟨Aa, ca, hva, hca, hca2⟩ := hLa.form
  subst hva
  obtain ⟨Cx, hCx, hCm, hml, hOD⟩ := hLa.ownD
  obtain ⟨nL, hnL⟩ : ∃ nL : Nat, nL = (cmdsL B P2 k).length := ⟨_, rfl⟩
  rw [← hnL] at hLa hca hOD hpl2 ⊢
  have hCl : Cx.length = nL := by rw [hnL, ← hCx, List.length_map]
  refine TP.call (ι := (Option Addr × Nat) × (List CV × List Ent)) (V := fun y => .agg (dV (mo : Int) (m2 : Int) (shaM B) (shaM P2) (slice y.1.1 nL y.1.2)).toArray) (R := fun y => (nL ≤ y.1.2 ∧ y.1.2 ≤ 9223372036854775807) ∧ OwnD B0.heap.size y.1.1 nL y.2.1 y.2.2 ∧ sameE y.2.1 Cx) (H' := fun y => ([] ++ Ha) ++ y.2.2) (qA rfl) rfl enters19 rfl rfl (fun w hs => (desc8_c B P2 Ao A2 mo co m2 c2 Aa nL ca Cx hmo hm2 hco hcm2 (by omega) (by omega) (by omega) hOD.num w (hsB.at_ (hwB.rebase hs (qt (qI (by first | assumption | (dsimp only; omega)) (qI (by first | assumption | (dsimp only; omega)) (qI (by first | assumption | (dsimp only; omega)) (qI (by first | assumption | (dsimp only; omega)) (qI (by first | assumption | (dsimp only; omega)) (qI (by first | assumption | (dsimp only; omega)) (qI (by first | assumption | (dsimp only; omega)) qa))))))) (fun e he => Nat.le_trans hwz (hFa e he)))) (fun b hb => (qY (qD (by show g7 ≠ b; omega) (qD (by show g6 ≠ b; omega) (qD (by show g5 ≠ b; omega) (qD (by show g4 ≠ b; omega) (qD (by show g3 ≠ b; omega) (qD (by show g2 ≠ b; omega) (qD (by show g1 ≠ b; omega) qF))))))) (Fresh.ne hFa (Nat.lt_of_lt_of_le hb hwz))))) (hs2.at_ (hwB.rebase hs (qt (qI (by first | assumption | (dsimp only; omega)) (qI (by first | assumption | (dsimp only; omega)) (qI (by first | assumption | (dsimp only; omega)) (qI (by first | assumption | (dsimp only; omega)) (qI (by first | assumption | (dsimp only; omega)) (qI (by first | assumption | (dsimp only; omega)) (qI (by first | assumption | (dsimp only; omega)) qa))))))) (fun e he => Nat.le_trans hwz (hFa e he)))) (fun b hb => (qY (qD (by show g7 ≠ b; omega) (qD (by show g6 ≠ b; omega) (qD (by show g5 ≠ b; omega) (qD (by show g4 ≠ b; omega) (qD (by show g3 ≠ b; omega) (qD (by show g2 ≠ b; omega) (qD (by show g1 ≠ b; omega) qF))))))) (Fresh.ne hFa (Nat.lt_of_lt_of_le hb hwz))))) (hOD.src (fun e he => hs.has e (by simp [he]))) (hOD.dat (fun e he => hs.has e (by simp [he]))) (cmds_few hCx hCm (by omega) (by omega)) (Nat.lt_of_lt_of_le h1b hs.size) (hIVb.keepH hs (by omega) (qY (qD (by show g7 ≠ 0; omega) (qD (by show g6 ≠ 0; omega) (qD (by show g5 ≠ 0; omega) (qD (by show g4 ≠ 0; omega) (qD (by show g3 ≠ 0; omega) (qD (by show g2 ≠ 0; omega) (qD (by show g1 ≠ 0; omega) qF))))))) (qY qF (hFa.ne (by omega))))) (hKb.keepH hs h1b (qY (qD (by show g7 ≠ 2; omega) (qD (by show g6 ≠ 2; omega) (qD (by show g5 ≠ 2; omega) (qD (by show g4 ≠ 2; omega) (qD (by show g3 ≠ 2; omega) (qD (by show g2 ≠ 2; omega) (qD (by show g1 ≠ 2; omega) qF))))))) (qY qF (hFa.ne h1b))))).mono fun e w' ⟨A', c', Fs, Hw, he, hc, ho, hsm, hw⟩ => ⟨((A', c'), (Fs, Hw)), he, ⟨hc, ho.mono hs.size, hsm⟩, by rw [← List.append_assoc]; exact st_call hs hw ho.1⟩) (fun y hR => ?_)
  obtain ⟨⟨As, cs⟩, Fs, Hw⟩ := y
  obtain ⟨hcs, hos, hsm⟩ := hR
  dsimp only at hcs hos hsm ⊢
  have hFw : Fresh B0 Hw := hos.1
  refine TP.lastW (qA rfl) rfl rfl size26 rfl (vs := dV (mo : Int) (m2 : Int) (shaM B) (shaM P2) (slice As nL cs)) rfl (by simp [(shaM_len B), (shaM_len P2)]) (zH (by simp [Value.oneCell']) (zH qk (zH qk (by simp [Value.oneCell'])))) (i := 3) (ent := ⟨g4, 26, [int .i64 0, int .i64 0] ++ ((List.replicate 64 0).map (int .u8) ++ ([slice none 0 0])), 67⟩) rfl rfl (by simp []) (H' := [⟨g7, 68, [Value.func (.func 73) #[] #[.pointer (some ⟨gm, 0, none⟩), .pointer (some ⟨gf, 0, none⟩)]], 1⟩, ⟨g6, 3, [int .i64 (e0 : Int)], 1⟩, ⟨g5, 24, [v], 1⟩, ⟨g4, 26, dV (mo : Int) (m2 : Int) (shaM B) (shaM P2) (slice As nL cs), 67⟩, ⟨g3, 3, [int .i64 k], 1⟩, ⟨g2, 22, [slice A2 m2 c2], 1⟩, ⟨g1, 22, [slice Ao mo co], 1⟩] ++ (([] ++ Ha) ++ Hw)) rfl ?_
  iterate 2 refine gx ?_
  refine TE.markR (n := ⟨_, [], .plain⟩) (w0 := w) (gs := [g7, g6, g5, g4, g3, g2, g1]) ⟨Nat.le_trans hwz0 hlo, hD, fun x hx => by have := hgl x hx; omega⟩ hwB0' hfrC ?_ ?_ (.inl rfl)
  ·intro e he
   rcases List.mem_append.1 he with he | he
   ·exact .inr (by simp only [List.mem_cons, List.not_mem_nil, or_false] at he; rcases he with rfl | rfl | rfl | rfl | rfl | rfl | rfl <;> simp)
   ·exact .inl ((qt (qt qa hFa) hFw) e he)
  exact qn rfl agg26 size26 rfl (vs := dV (mo : Int) (m2 : Int) (shaM B) (shaM P2) (slice As nL cs)) (by simp [(shaM_len B), (shaM_len P2)]) (qZ (i := 3) (ent := ⟨g4, 26, dV (mo : Int) (m2 : Int) (shaM B) (shaM P2) (slice As nL cs), 67⟩) rfl rfl rfl) (fun w2 hs => ⟨As, cs, nL, Fs, Hw, rfl, hcs, hos.mono hwz, ⟨by rw [← hCx]; exact hsm.c, fun x hx => mk_m hsm hCm x hx⟩, hsm.len.trans hCl, mk_drop (X := [Ent.mk g7 68 ([Value.func (.func 73) #[] #[.pointer (some ⟨gm, 0, none⟩), .pointer (some ⟨gf, 0, none⟩)]]) 1, Ent.mk g6 3 ([int .i64 (e0 : Int)]) 1, Ent.mk g5 24 ([v]) 1, Ent.mk g4 26 (dV (mo : Int) (m2 : Int) (shaM B) (shaM P2) (slice As nL cs)) 67, Ent.mk g3 3 ([int .i64 k]) 1, Ent.mk g2 22 ([slice A2 m2 c2]) 1, Ent.mk g1 22 ([slice Ao mo co]) 1]) hs (qI (by first | assumption | (dsimp only; omega)) (qI (by first | assumption | (dsimp only; omega)) (qI (by first | assumption | (dsimp only; omega)) (qI (by first | assumption | (dsimp only; omega)) (qI (by first | assumption | (dsimp only; omega)) (qI (by first | assumption | (dsimp only; omega)) (qI (by first | assumption | (dsimp only; omega)) qa))))))) (fun e he => Nat.le_trans hwz (hFa e he))⟩)
section
variable {P : Program} {ops : Array Oper} {Q : Exit → Act → World → Prop} {n : Sz} {w0 : World} {L L' : List (Nat × Value)} {HB H : List Ent}
variable {o : Oper} {rest : List Oper} {v u : Value} {x y z : Operand} {k m j : Nat} {t t' e : TypeId} {ks : List Nat} {kd : IntKind}
theorem TP.copyP {i g off dl dc sl sc : Nat} {ent : Ent} {A : Option Addr} {B : List Int} (hg : Wants n ops L o) (hi' : inside n o.dst = true) (ho : o.op = .call { callee := .builtin .copy, args := #[x, y], argTypes := #[t, t'] })
  (h1 : P.underlying t = some (.slice e)) (hsz : (P.info? e).map (·.size) = some 1)
  (hx : ev L x = some (.slice (some ⟨g, off, none⟩) dl dc)) (hy : ev L y = some (.slice A sl sc)) (hi : (HB ++ H)[i]? = some ent) (he : ent.g = g) (hoff : off + dl ≤ ent.cs.length)
  (hsrc : ∀ w, St w0 (HB ++ H) w → Src w A sl kd B) {c : Nat} (hc : min sl dl = c)
  {cs' : List Value} (hcs : ent.cs.take off ++ (B.take c).map (int kd) ++ ent.cs.drop (off + c) = cs') {H' : List Ent} (hH : (HB ++ H).set i ⟨ent.g, ent.t, cs', ent.tot⟩ = HB ++ H')
  (hr : TP P ops Q n w0 HB ks rest (put L o.dst (.int .i64 c)) H') : TP P ops Q n w0 HB (3 :: ks) (o :: rest) L H := by
 refine TP.value (ι := Unit) (V := fun _ => .int .i64 c) (R := fun _ => True) (H' := fun _ => H') hg hi' (fun a w hf hs => ?_) fun _ _ => hr
 subst hc; subst hcs
 have hB := hsrc w hs
 have hlen : ((B.take (min sl dl)).map (int kd)).length = min sl dl := by simp; have := hB.1; omega
 obtain ⟨w', hrun, hs'⟩ := run_storeCells (P := P) (i := i) (g := g) (ent := ent) (off := off) ((B.take (min sl dl)).map (int kd)) 0 (HB ++ H) ent w he hs hi qk (by rw [hlen]; omega)
 have hrun' : (execOp a.eval o).run P w = .ok (.value (.int .i64 (min sl dl : Nat))) w' := by
  simp only [execOp, ho, resolve, invoke, builtin, Sem.run_bind, Sem.run_pure, Result.andThen_ok, List.map_toArray, List.map_cons, List.map_nil, hf.eval hx, hf.eval hy]
  have h5 : (Builtin.copy_ #[t, t'] o.type #[.slice (some ⟨g, off, none⟩) dl dc, .slice A sl sc]).run P w = .ok (.int .i64 (min sl dl : Nat)) w' := by
   unfold Builtin.copy_
   simp only [List.getElem?_toArray, List.getElem?_cons_zero, List.getElem?_cons_succ, Sem.run_bind, run_under h1, Result.andThen_ok, Builtin.lenOf, Sem.run_pure, run_size hsz]
   have h6 := run_cells (P := P) (c := sc) hB (i := Nat.min sl dl) (Nat.min_le_left _ _)
   rw [h6]
   simp only [Result.andThen_ok]
   have h7 : (storeCells ⟨g, off, none⟩ ((B.take (Nat.min sl dl)).map (int kd)) 0).run P w = .ok () w' := hrun
   rw [h7]
   rfl
  rw [h5]; rfl
 rw [hlen] at hs'
 refine ⟨(), w', hrun', trivial, ?_⟩
 rw [← hH]; simpa using hs'
end
def contV (Ao : Option Addr) (co : Nat) (x : CV) : Value := if x.k = 1 then .slice (cutA Ao co x.f.toNat 1) x.l.toNat (co - x.f.toNat) else .slice x.A x.m x.c
theorem vkinds {o n : Int} {Cs : List CV} (h : ValidC o n Cs) {i : Nat} {x : CV} (hx : Cs[i]? = some x) : (x.k = 1 ∧ 0 ≤ x.f ∧ 1 ≤ x.l ∧ x.f + x.l ≤ o ∧ x.m = 0) ∨ (x.k = 2 ∧ x.f = 0 ∧ x.l = 0 ∧ 1 ≤ x.m) := by
 have h1 := h.single i x hx
 have h2 : codeV x.k x.t x.f x.l x.m = 0 := by
  apply Classical.byContradiction
  intro hne
  unfold singleV at h1; rw [if_neg hne] at h1; exact hne h1
 unfold singleV at h1; rw [if_pos h2] at h1
 rcases codeV0 h2 with hk | hk
 ·left
  rw [hk] at h2
  obtain ⟨a1, a2, a3, a4⟩ := codeV1.1 h2
  unfold vld at a3 a4
  by_cases hc : x.k = 1 ∧ o < x.f + x.l
  ·rw [if_pos hc] at h1; omega
  ·exact ⟨hk, by omega, by omega, by omega, a2⟩
 ·right
  rw [hk] at h2
  obtain ⟨a1, a2, a3, a4⟩ := codeV2.1 h2
  exact ⟨hk, a2, a3, by omega⟩
theorem vokp {o n : Int} {Cs : List CV} {B : List Int} (h : ValidC o n Cs) {i : Nat} {x : CV} (hx : Cs[i]? = some x) (hm : x.m = x.B.length) (hB : (B.length : Int) = o) : okPC B (valC x) := by
 unfold okPC valC
 dsimp only
 rcases vkinds h hx with h1 | h1
 ·exact .inl ⟨h1.1, h1.2.1, h1.2.2.1, by omega, List.length_eq_zero_iff.1 (by omega)⟩
 ·exact .inr ⟨h1.1, h1.2.1, h1.2.2.1, fun e => by rw [e] at hm; simp at hm; omega⟩
theorem seg_length {B : List Int} {x : CV} (h : okPC B (valC x)) (hm : x.m = x.B.length) : ((segP B (valC x)).length : Int) = (tg x).2 := by
 rw [seg_at h hm, List.length_map, List.length_range]
 unfold okPC valC at h
 unfold tg lenV
 dsimp only at h ⊢
 rcases h with h | h
 ·rw [if_pos h.1]; omega
 ·rw [if_neg (by omega)]; omega
theorem seg_get {B : List Int} {x : CV} (h : okPC B (valC x)) (hm : x.m = x.B.length) {p : Int} (hp : hasB (tg x) p) : (segP B (valC x))[(p - x.t).toNat]? = some (atV B x p) := by
 rw [seg_at h hm]
 have h1 : x.t ≤ p := hp.1
 have h2 : p < x.t + (tg x).2 := hp.2
 rw [List.getElem?_map, List.getElem?_range (by omega)]
 simp only [Option.map_some]
 congr 2
 omega
def putI (B : List Int) (Cs : List CV) (n : Int) (i : Nat) (L : List Int) : Prop := L.length = n.toNat ∧ ∀ (j : Nat) (x : CV) (p : Int), j < i → Cs[j]? = some x → hasB (tg x) p → L[p.toNat]? = some (atV B x p)
theorem putI.zero (B : List Int) (Cs : List CV) (n : Int) : putI B Cs n 0 (List.replicate n.toNat 0) := ⟨by simp, fun j x p hj => absurd hj (Nat.not_lt_zero j)⟩
theorem putI.next {B : List Int} {Cs : List CV} {o n : Int} {i : Nat} {L : List Int} {x : CV} (h : putI B Cs n i L) (hv : ValidC o n Cs) (hx : Cs[i]? = some x) (hm : x.m = x.B.length) (hB : (B.length : Int) = o) :
  putI B Cs n (i + 1) (L.take x.t.toNat ++ segP B (valC x) ++ L.drop (x.t.toNat + (segP B (valC x)).length)) := by
 have hok := vokp hv hx hm hB
 have hsl := seg_length hok hm
 have h3 := hv.tidy.1 _ (List.mem_map_of_mem (f := tg) (List.mem_of_getElem? hx))
 unfold okT at h3
 have e1 : (tg x).1 = x.t := rfl
 rw [e1] at h3
 have hLl := h.1
 have hlt : (L.take x.t.toNat).length = x.t.toNat := by rw [List.length_take]; omega
 refine ⟨by simp only [List.length_append, List.length_drop, hlt]; omega, fun j y p hj hy hp => ?_⟩
 have hp1 : y.t ≤ p := hp.1
 have hp2 : p < y.t + (tg y).2 := hp.2
 have h4 := hv.tidy.1 _ (List.mem_map_of_mem (f := tg) (List.mem_of_getElem? hy))
 unfold okT at h4
 have e2 : (tg y).1 = y.t := rfl
 rw [e2] at h4
 by_cases hji : j = i
 ·subst hji
  rw [hx] at hy; cases hy
  rw [List.append_assoc, List.getElem?_append_right (by rw [hlt]; omega), hlt, List.getElem?_append_left (by omega)]
  have := seg_get hok hm hp
  rw [← this]
  congr 1
  omega
 ·have hap : apartT (tg y) (tg x) := by
   have hil := (List.getElem?_eq_some_iff.1 hx).1
   have hjl := (List.getElem?_eq_some_iff.1 hy).1
   have := List.pairwise_iff_getElem.1 hv.tidy.2 j i (by simpa using hjl) (by simpa using hil) (by omega)
   simp only [List.getElem_map, (List.getElem?_eq_some_iff.1 hx).2, (List.getElem?_eq_some_iff.1 hy).2] at this
   exact this
  have h5 := h.2 j y p (by omega) hy hp
  unfold apartT at hap
  rw [e1, e2] at hap
  rcases hap with hap | hap
  ·rw [List.append_assoc, List.getElem?_append_left (by rw [hlt]; omega), List.getElem?_take, if_pos (by omega)]; exact h5
  ·rw [List.getElem?_append_right (by simp only [List.length_append, hlt]; omega)]
   simp only [List.length_append, hlt]
   rw [List.getElem?_drop]
   rw [← h5]
   congr 1
   omega
theorem putI.done {B : List Int} {Cs : List CV} {o n : Int} {i : Nat} {L : List Int} (h : putI B Cs n i L) (hv : ValidC o n Cs) (hi : Cs.length ≤ i) : L = newB B Cs n := by
 have hn := hv.len
 unfold okLen at hn
 apply List.ext_getElem?
 intro q
 by_cases hq : (q : Int) < n
 ·obtain ⟨j, x, h1, h2, h3⟩ := hv.find (p := (q : Int)) (by omega) hq
  have h4 := h.2 j x q (by have := (List.getElem?_eq_some_iff.1 h2).1; omega) h2 h3
  rw [Int.toNat_natCast] at h4
  rw [h4, newB_get hq, byteI_of hv.tidy h2 h3]
 ·rw [List.getElem?_eq_none (by have := h.1; omega), List.getElem?_eq_none (by rw [newB_len]; omega)]
theorem cutA_src {w : World} {A : Option Addr} {m c q l : Nat} {kd : IntKind} {B : List Int} (h : Src w A m kd B) (hmc : m ≤ c) (hl : 1 ≤ l) (hq : q + l ≤ m) : Src w (cutA A c q 1) l kd ((B.drop q).take l) := by
 obtain ⟨b, o, rfl, hb, hr⟩ := h.2.resolve_left (by omega)
 rw [cut_is (b := b) (off := o) (cap := c) (l := q) (size := 1) (by omega) rfl, Nat.mul_one]
 exact h.cut (l := q) (n := l) hq
theorem contV_src {w : World} {Ao : Option Addr} {mo co : Nat} {o n : Int} {B : List Int} {Cs : List CV} {i : Nat} {x : CV} (hv : ValidC o n Cs) (hx : Cs[i]? = some x) (hsB : Src w Ao mo .u8 B) (ho : o = mo) (hmo : mo ≤ co) (hco : co ≤ 9223372036854775807) (hsx : Src w x.A x.m .u8 x.B) (hn : NumC x) :
  ∃ A m c, contV Ao co x = .slice A m c ∧ Src w A m .u8 (segP B (valC x)) ∧ m ≤ c ∧ c ≤ 9223372036854775807 ∧ (m : Int) = (tg x).2 := by
 unfold NumC at hn
 unfold contV segP tg lenV valC
 dsimp only
 rcases vkinds hv hx with h | h
 ·rw [if_pos h.1, if_pos h.1, if_pos h.1]
  exact ⟨_, _, _, rfl, cutA_src hsB hmo (by omega) (by omega), by omega, by omega, by omega⟩
 ·rw [if_neg (by omega), if_neg (by omega), if_neg (by omega)]
  exact ⟨_, _, _, rfl, hsx, by omega, by omega, rfl⟩
end Go.Proofs.YtegddcklbmonfaaGreatDoor
