/-
 PatchOrder: the frame.
-/
import Derived.Test.YtegddcklbmonfaaGreatDoorYOrderPd
import Derived.Test.YtegddcklbmonfaaGreatDoorYOrderPb
import Derived.Shelf.Bytes.SlIndexWhole
import Derived.Shelf.LaysM
import Derived.Test.YtegddcklbmonfaaGreatDoorProg
import Derived.Test.YtegddcklbmonfaaGreatDoorYOrderPc
import Derived.HandedShaped
import Derived.Shelf.Vars
import Derived.Test.YtegddcklbmonfaaGreatDoorTie
import Derived.Test.YtegddcklbmonfaaGreatDoorCards
import Derived.SevenTiedAt
/-
 What the making of a delta asks of the engine: calls through function values in regions that draw their order, calls behind which the base world moves, a map that is written in the rounds of a range over a function, appends onto a caller's slice.
-/
namespace Go.Proofs.YtegddcklbmonfaaGreatDoor
set_option maxRecDepth 100000
set_option maxHeartbeats 2000000
open Go.Value (int slice)
set_option linter.unusedVariables false
set_option linter.unusedSimpArgs false
open Go Go.RowKit
section
variable {P : Program} {ops : Array Oper} {Q : Exit → Act → World → Prop} {n : Sz} {w0 v W w : World} {L L' : List (Nat × Value)} {H HB : List Ent}
variable {o : Oper} {rest : List Oper} {u : Value} {x y z : Operand} {t t' e k : TypeId} {kq : IntKind} {ks : List Nat} {ex : Exit}
theorem wp_mixBn {md0 : Md} {id : Nat} {l : List Oper} {a : Act} {w : World} {S B : World → Prop} (hmix : P.follows .mixedOrders = true) (ks p : List Nat) (ho : mixOKp9 .any l.toArray ks p = true)
  (hB : ∀ w, S w → B w) (hS : S w.drew) (h : MixMB P l.toArray B (Q .normal) (pickK9 ks p) (pickO9 l p) a S) (hok : OkR md0 l.toArray Q) : wpn md0 P (Code.region id l.toArray true) Q a w := by
 refine wpnFrom_start hok hmix ?_
 intro listed hl
 have hsz : l.toArray.size = l.length := by simp
 obtain ⟨hns, hlen, hall, hself, hpw⟩ := mixOKp_spec9 ho
 have := wpAny_of_mixB (P := P) (Q := Q) (ks := ks) hns hself l.length p listed a w.drew S (hlen.trans hsz) hpw (fun i hi => hi)
  ⟨hl.1, fun q hq => by
   rw [hl.2.1 q hq]
   have := hall q hq
   simp [this], hl.2.2⟩ (MixMB.seqp p a S (fun i hi => by rw [← hsz]; exact (hself i hi).1) h) hB hS
 rw [hsz, Nat.sub_zero]
 exact this
theorem TC.mixBn {id : Nat} {l : List Oper} (hmix : P.follows .mixedOrders = true) (ks p : List Nat) (ho : mixOKp9 .any l.toArray ks p = true) (h : TP P l.toArray Q n w0 HB (pickK9 ks p) (pickO9 l p) L H) (hok : OkR n.md l.toArray Q := by exact trivial) : TC P Q n w0 (.region id l.toArray true) L (HB ++ H) :=
 fun a w hf hs => wp_mixBn hmix ks p ho (fun w h => ⟨H, h⟩) hs.drew (h a hf) hok
theorem TM.call0F {f : FuncId} {tt : Nat} {lb : List Value} {xs : List Operand} {ts : Array TypeId} {vs : List Value} {v : Value} (hg : Wants n ops L o) (hi : inside n o.dst = true) (h : Enters P f)
  (ho : o.op = .call { callee := .value (.tmp tt), args := xs.toArray, argTypes := ts }) (ht : look L tt = some (.func (.func f) #[] lb.toArray)) (hx : evs L xs = some vs)
  (hc : ∀ w, St w0 H w → Calls P f (vs ++ lb).toArray w fun e w' => e = .returned v ∧ St w [] w')
  (hr : TM P ops Q n w0 ks rest (put L o.dst v) H) : TM P ops Q n w0 (1 :: ks) (o :: rest) L H :=
 fun a hf => ⟨v, St w0 H, ⟨.inl ⟨hg a hf, fun w hS => by rw [run_enterF h ho hf ht hx]; exact (hc w hS).mono fun e w' ⟨he, hw⟩ => ⟨he, hS.call' hw⟩⟩, rfl⟩, hr _ (hf.put o.dst v hi)⟩
theorem TP.lastW {i g s : Nat} {ent : Ent} {vs : List Value} (hg : Wants n ops L o) (hd : o.dst = none) (ho : o.op = .store t x y) (hsz : (P.info? t).map (·.size) = some s)
  (hx : ev L x = some (.pointer (some ⟨g, 0, none⟩))) (hy : ev L y = some (.agg vs.toArray)) (hl : vs.length = s) (h1 : ∀ u ∈ vs, u.oneCell' = true) (hi : (HB ++ H)[i]? = some ent) (he : ent.g = g) (hoff : ent.cs.length = s)
  {H' : List Ent} (hH : (HB ++ H).set i ⟨ent.g, ent.t, vs, ent.tot⟩ = H') (hr : TE Q .normal n w0 L H') : TP P ops Q n w0 HB [7] [o] L H :=
 fun a hf => .inr (.inr (.inl ⟨rfl, St w0 H', ⟨hd, fun w hs => ⟨by
  have h2 : ent.cs.drop (0 + vs.length) = [] := List.drop_of_length_le (by omega)
  obtain ⟨w', hrun, hs'⟩ := run_storeCells (P := P) (i := i) (g := g) (ent := ent) (off := 0) vs 0 (HB ++ H) ent w he hs hi h1 (by simp; omega)
  refine ⟨w', ?_, ?_⟩
  ·simp only [execOp, ho, hf.eval hx, hf.eval hy]
   refine run_unit ?_
   simp only [Instr.storeAt, Instr.sureAddr, storeVar, Sem.run_bind, Sem.run_pure, Result.andThen_ok, run_size hsz]
   rw [if_neg (fun h => h (by simpa [Value.cells] using hl))]
   simpa [Value.cells] using hrun
  ·rw [← hH]
   rw [Nat.zero_add] at h2
   simpa [h2] using hs', hg a hf⟩⟩, fun hne => absurd rfl hne, fun w hs => hr a w hf hs⟩))
theorem TL.callB {ι : Type} {f : FuncId} {xs : List Operand} {ts : Array TypeId} {vs : List Value} {V : ι → Value} {R : ι → World → Prop} (hg : Wants n ops L o) (hi : inside n o.dst = true) (h : Enters P f)
  (ho : o.op = .call { callee := .value (.func f), args := xs.toArray, argTypes := ts }) (hx : evs L xs = some vs)
  (hc : ∀ w, St w0 H w → Calls P f vs.toArray w fun e w' => ∃ i, e = .returned (V i) ∧ R i w' ∧ St w0 H w')
  (hr : ∀ i w1, R i w1 → St w0 H w1 → TL P ops Q n w1 rest (put L o.dst (V i)) H) : TL P ops Q n w0 (o :: rest) L H :=
 fun a w hf hs => wpL_wants hg.nd (hg a hf) fun K hK => by
  unfold Oper.wp; rw [run_enter h ho hf hx]
  refine (hc w hs).mono ?_
  rintro e w' ⟨i, rfl, hR, hs'⟩
  exact hK _ _ (hr i w' hR hs' _ w' (hf.put o.dst _ hi) hs'.self)
theorem St.rebase (h1 : St w0 [] v) (h2 : St v H w) (hH : ∀ e ∈ H, w0.heap.size ≤ e.g) : St w0 H w :=
 ⟨h2.os.trans h1.os, h2.tape.trans h1.tape, h2.output.trans h1.output, Nat.le_trans h1.size h2.size, h2.has,
  fun b hb hne => (h2.old b (Nat.lt_of_lt_of_le hb h1.size) hne).trans (h1.old b hb (by simp)), h2.apart⟩
theorem TL.updH {es : Array MapEntry} {b c : Nat} {q : Int} (hM : v.heap[b]? = some (.map es c)) (hg : Wants n ops L o) (hd : o.dst = none) (ho : o.op = .mapUpdate t x y z) (h1 : P.underlying t = some (.map k e)) (hk : P.underlying k = some (.int kq))
  (hx : ev L x = some (.map (some b))) (hy : ev L y = some (.int kq q)) (hz : ev L z = some u) (hfind : Instr.findNow (.int kq) (.int kq q) es.toList 0 = some none)
  (hr : ∀ v2, v2.os = v.os → v2.tape = v.tape → v2.output = v.output → v.heap.size ≤ v2.heap.size → (∀ c, c < v.heap.size → c ≠ b → v2.heap[c]? = v.heap[c]?) → v2.heap[b]? = some (.map (es.push ⟨.int kq q, u, c⟩) (c + 1)) → TL P ops Q n v2 rest L []) : TL P ops Q n v (o :: rest) L [] :=
 fun a w hf hs => wpL_wants hg.nd (hg a hf) fun K hK => by
  have hb1 : b < v.heap.size := (Array.getElem?_eq_some_iff.1 hM).1
  have hbm : w.heap[b]? = some (.map es c) := (hs.old b hb1 (by simp)).trans hM
  have hlt : b < w.heap.size := Nat.lt_of_lt_of_le hb1 hs.size
  have hrun : (execOp a.eval o).run P w = .ok .skip { w with heap := w.heap.setIfInBounds b (.map (es.push ⟨.int kq q, u, c⟩) (c + 1)) } := by
   simp only [execOp, ho, hf.eval hx, hf.eval hy, hf.eval hz]
   refine run_unit ?_
   simp [Instr.mapUpdate, Sem.run_bind, run_under h1, MapKept.run_getObj_map hbm, MapKept.run_checkKey hk (k := .int kq q) (by simp [MapKept.IsKey]), MapKept.run_findKey hk hfind, MapKept.run_setObj_map _ hbm]
  unfold Oper.wp; rw [hrun]
  refine hK _ _ ?_
  rw [hd]
  refine hr { w with heap := w.heap.setIfInBounds b (.map (es.push ⟨.int kq q, u, c⟩) (c + 1)) } hs.os hs.tape hs.output (by simpa using hs.size) (fun i hi hne => ?_) (by simp [hlt]) a _ hf (St.refl _)
  have h2 := hs.old i hi (by simp)
  simp only [Array.getElem?_setIfInBounds]
  rw [if_neg (fun h => hne h.symm)]
  exact h2
theorem TE.roundM {sz : Nat} {Ks : Nat → Prop} {M1 : World → Prop} (h : ∀ w, St w0 H w → M1 w ∧ Holds Ks v w ∧ sz ≤ w.heap.size) : TE (RoundM sz Ks v M1) .normal n w0 L H := fun a w _ hs => h w hs
theorem TE.markM {fn : Func} {R : Ending → World → Prop} {D : Nat} (M : World → Prop) (hD : W.heap[D]? = some (.deferred (some []))) (hM : ∀ u, St W [] u → M (u.putObj D (.deferred none)))
  (h : ∀ u, M u → TE (bodyPost P fn R) ex ⟨n.size, [], .plain⟩ u L []) (hex : ex = .ret ∨ ex = .normal) : TE (bodyPostM Fence.wide 2 P fn R) ex ⟨n.size, [mark D], .plain⟩ W L [] := by
 intro a w hf hs
 have hDW : D < W.heap.size := (Array.getElem?_eq_some_iff.1 hD).1
 have hDw : w.heap[D]? = some (.deferred (some [])) := (hs.old D hDW (by simp)).trans hD
 have h3 := h _ (hM w hs) { a with defers := [] } _ ⟨rfl, hf.2⟩ (St.refl _)
 have key : LeavesInM Fence.wide 2 P fn a.tmps R a.defers .returning w := by
  rw [hf.1]
  refine ⟨by simp, .inl ⟨D, _, rfl, run_takeDeferred hDw, ?_⟩⟩
  rcases hex with rfl | rfl
  ·exact h3.2
  ·exact h3.2
 rcases hex with rfl | rfl
 ·exact key
 ·exact key
theorem TL.appendOver {B : World} {Hc He : List Ent} {As : Option Addr} {s nn sc bytes m : Nat} {cs news : List Value} {zv v : Value} (hst : St B (Hc ++ He) w0) (hown : OwnS B.heap.size e s v nn cs He)
  (hg : Wants n ops L o) (hi' : inside n o.dst = true) (ho : o.op = .call { callee := .builtin .append, args := #[x, y], argTypes := #[t, t] })
  (h1 : P.underlying t = some (.slice e)) (hz : (P.info? e).map (fun i => (i.zero, i.size, i.bytes)) = some (some zv, s, bytes)) (hzc : zv.cells.size = s) (hs0 : 0 < s)
  (hx : ev L x = some v) (hy : ev L y = some (.slice As m sc)) (hF : Fresh w0 H) (hl : news.length = m * s) (hsrc : ∀ w, St w0 H w → SrcV w As m news) (h1c : ∀ u ∈ news, u.oneCell' = true)
  (h63 : nn + m ≤ maxLen) (hbytes : (nn + m) * bytes ≤ 140737488355328)
  (hr : ∀ v' He' w2, OwnS B.heap.size e s v' (nn + m) (cs ++ news) He' → St B ((Hc ++ H) ++ He') w2 → TL P ops Q n w2 rest (put L o.dst v') []) : TL P ops Q n w0 (o :: rest) L H :=
 fun a w hf hs => wpL_wants hg.nd (hg a hf) fun K hK => by
  have hall : St B ((Hc ++ H) ++ He) w := by
   have a1 : St B ([] ++ (Hc ++ He)) w0 := hst
   have := St.over a1 hs (fun e he d hd => by
    have h1 := hF e he
    have h2 := (hst.has d hd).lt
    omega) (fun d hd => by cases hd)
   refine this.perm ?_
   rw [List.append_assoc]
   exact List.perm_append_comm_assoc H Hc He
  obtain ⟨v', w', He', hrun, hown', hst'⟩ := run_appendS (P := P) (t := t) (ty := o.type) (sc := sc) h1 hz hzc hs0 hown hall (Nat.le_refl _) (Nat.le_refl _) hl (hsrc w hs) h1c h63 hbytes (fun _ => rfl)
  have hrun' : (execOp a.eval o).run P w = .ok (.value v') w' := by
   simp only [execOp, ho, resolve, invoke, builtin, Sem.run_bind, Sem.run_pure, Result.andThen_ok, List.map_toArray, List.map_cons, List.map_nil, hf.eval hx, hf.eval hy, hrun]
  unfold Oper.wp; rw [hrun']
  exact hK _ _ (hr v' He' w' hown' hst' _ w' (hf.put o.dst _ hi') (St.refl w'))
def occI (B P : List Int) (s : Int) : Int := match matchI B P s with
 | some q => (q : Int)
 | none => -1
theorem occ_no {B P : List Int} {s : Int} (h : matchI B P s = none) : occI B P s = -1 := by unfold occI; rw [h]
theorem occ_yes {B P : List Int} {s : Int} {q : Nat} (h : matchI B P s = some q) : occI B P s = q := by unfold occI; rw [h]
theorem rowI_drop {w : World} {b o n l : Nat} {kd : IntKind} {B : List Int} (h : RowI w b o n kd B) (hl : l ≤ n) : RowI w b (o + l) (n - l) kd (B.drop l) := fun j hj => by
 have := h (l + j) (by omega)
 rw [Lib.getD_drop, Nat.add_assoc]; exact this
structure MInv (w0 : World) (H : List Ent) (mb : Nat) (B : List Int) (s lo i : Nat) (W : World) : Prop where
 st : St w0 H W
 mp : MapAt W mb B s i
 lt : ∀ e ∈ H, e.g < lo
 ml : mb < lo
 nm : w0.heap.size ≤ mb
 ne : ∀ e ∈ H, e.g ≠ mb
structure FindC (w : World) (gm gf mb : Nat) (A : Option Addr) (m c : Nat) (B : List Int) (k : Int) : Prop where
 cm : w.cell? ⟨gm, 0, none⟩ = some (.map (some mb))
 cf : w.cell? ⟨gf, 0, none⟩ = some (.slice A m c)
 mp : MapAt w mb B k.toNat (cntH m k)
 lm : gm < w.heap.size
 lf : gf < w.heap.size
theorem FindC.at_ {gm gf mb m c : Nat} {A : Option Addr} {B : List Int} {k : Int} (h : FindC w0 gm gf mb A m c B k) (hs : St w0 H w) (hne : ∀ e ∈ H, e.g ≠ gm ∧ e.g ≠ gf ∧ e.g ≠ mb) : FindC w gm gf mb A m c B k :=
 ⟨(hs.old_cell (ad := ⟨gm, 0, none⟩) h.lm (fun e he => (hne e he).1)).trans h.cm, (hs.old_cell (ad := ⟨gf, 0, none⟩) h.lf (fun e he => (hne e he).2.1)).trans h.cf, h.mp.at_ hs (fun e he => (hne e he).2.2), Nat.lt_of_lt_of_le h.lm hs.size, Nat.lt_of_lt_of_le h.lf hs.size⟩
theorem Src.dropS {w : World} {b o m q : Nat} {kd : IntKind} {B : List Int} (h : Src w (some ⟨b, o, none⟩) m kd B) (hq : q ≤ m) : Src w (some ⟨b, o + q, none⟩) (m - q) kd (B.drop q) := by
 refine ⟨by rw [List.length_drop, h.1], ?_⟩
 rcases h.2 with h2 | ⟨b', o', hA, hb, hr⟩
 ·exact .inl (by omega)
 ·cases hA; exact .inr ⟨b, o + q, rfl, hb, rowI_drop hr hq⟩
theorem occ_cases (B P : List Int) (s : Int) : (occI B P s = -1 ∧ matchI B P s = none) ∨ ∃ q : Nat, occI B P s = q ∧ matchI B P s = some q := by
 cases h : matchI B P s with
 | none => exact .inl ⟨occ_no h, rfl⟩
 | some q => exact .inr ⟨q, occ_yes h, rfl⟩
def capA (ps pb : Nat) (A : Option Addr) (m : Nat) (k : Nat) : Prop := k = ps ∨ k = pb ∨ (0 < m ∧ ∃ a, A = some a ∧ k = a.block)
theorem capA_some {ps pb b ob m : Nat} (hm : 0 < m) : capA ps pb (some ⟨b, ob, none⟩) m = capB ps pb b := by
 funext k
 apply propext
 unfold capA capB
 constructor
 ·rintro (h | h | ⟨_, a, ha, h⟩)
  ·exact .inl h
  ·exact .inr (.inl h)
  ·cases ha; exact .inr (.inr h)
 ·rintro (h | h | h)
  ·exact .inl h
  ·exact .inr (.inl h)
  ·exact .inr (.inr ⟨hm, _, rfl, h⟩)
section
variable {mb s lo i c : Nat} {B : List Int}
theorem MInv.start {wm : World} (h : St wm H w) (hM : wm.heap[mb]? = some (.map #[] 0)) (hne : ∀ e ∈ H, e.g ≠ mb) (hb : w0.heap.size ≤ mb) (hw : St w0 [] wm) (hH : ∀ e ∈ H, w0.heap.size ≤ e.g) : MInv w0 H mb B s w.heap.size 0 w :=
 ⟨hw.rebase h hH, ⟨#[], 0, (h.old mb (Array.getElem?_eq_some_iff.1 hM).1 hne).trans hM, MapE.zero B s⟩, fun e he => (h.has e he).lt, Nat.lt_of_lt_of_le (Array.getElem?_eq_some_iff.1 hM).1 h.size, hb, hne⟩
theorem MInv.beside {A B' : World} (h : MInv w0 H mb B s lo i A) (hb : Beside lo (lo + 2 + c) A B') : MInv w0 H mb B s lo i B' :=
 ⟨h.st.besides hb (fun e he => .inl (h.lt e he)) (Nat.le_trans h.nm (Nat.le_of_lt h.ml)), h.mp.of_block (hb.block mb h.mp.lt (by have := h.ml; omega)), h.lt, h.ml, h.nm, h.ne⟩
theorem MInv.call {W' : World} (h : MInv w0 H mb B s lo i W) (hs : St W [] W') : MInv w0 H mb B s lo i W' :=
 ⟨h.st.call' hs, h.mp.at_ hs (by simp), h.lt, h.ml, h.nm, h.ne⟩
theorem MInv.next (h : MInv w0 H mb B s lo i W) (hf : firstH B s i (hshI (blkI B s i)) ≠ none) : MInv w0 H mb B s lo (i + 1) W := by
 obtain ⟨es, cc, h1, h2⟩ := h.mp
 exact ⟨h.st, ⟨es, cc, h1, h2.same hf⟩, h.lt, h.ml, h.nm, h.ne⟩
theorem MInv.put {es : Array MapEntry} {cc : Nat} {v2 : World} (h : MInv w0 H mb B s lo i v) (hme : MapE es B s i) (hf : firstH B s i (hshI (blkI B s i)) = none) (q1 : v2.os = v.os) (q2 : v2.tape = v.tape) (q3 : v2.output = v.output) (q4 : v.heap.size ≤ v2.heap.size)
  (q5 : ∀ c, c < v.heap.size → c ≠ mb → v2.heap[c]? = v.heap[c]?) (q6 : v2.heap[mb]? = some (.map (es.push ⟨.int .u64 (hshI (blkI B s i)), .int .i64 (i : Int), cc⟩) (cc + 1))) : MInv w0 H mb B s lo (i + 1) v2 :=
 ⟨⟨q1.trans h.st.os, q2.trans h.st.tape, q3.trans h.st.output, Nat.le_trans h.st.size q4, fun e he => (h.st.has e he).of_block (q5 _ (h.st.has e he).lt (h.ne e he)),
  fun b hb hne => (q5 b (Nat.lt_of_lt_of_le hb h.st.size) (by have := h.nm; omega)).trans (h.st.old b hb hne), h.st.apart⟩, ⟨_, _, q6, hme.push hf⟩, h.lt, h.ml, h.nm, h.ne⟩
theorem MInv.end_ {u : World} {ob : Obj} (h : MInv w0 H mb B s lo i W) (hs : St W [] u) : St w0 H (u.putObj lo ob) ∧ MapAt (u.putObj lo ob) mb B s i := by
 have h1 := h.call hs
 have hne : ∀ e ∈ H, e.g ≠ lo := fun e he => by have := h.lt e he; omega
 refine ⟨⟨h1.st.os, h1.st.tape, h1.st.output, by simpa using h1.st.size, fun e he => (h1.st.has e he).of_block (World.putObj_heap_other (hne e he)),
  fun b hb hneb => (World.putObj_heap_other (by have := h.nm; have := h.ml; omega)).trans (h1.st.old b hb hneb), h1.st.apart⟩, h1.mp.of_block (World.putObj_heap_other (by have := h.ml; omega))⟩
theorem holds_call {Ks : Nat → Prop} (hs : St v [] w) : Holds Ks v w := fun k _ hk => hs.old k hk (by simp)
theorem holds_put {Ks : Nat → Prop} {v2 : World} (hk : ∀ k, Ks k → k ≠ mb) (q4 : v.heap.size ≤ v2.heap.size) (q5 : ∀ c, c < v.heap.size → c ≠ mb → v2.heap[c]? = v.heap[c]?) (hs : St v2 [] w) : Holds Ks v w := fun k hk' hl =>
 (hs.old k (Nat.lt_of_lt_of_le hl q4) (by simp)).trans (q5 k hl (hk k hk'))
end
end
/-
 The code of layer 8: finder.
-/
theorem agg111 : (isAgg 111).run Tryz.prog = fun w => .ok false w := isAgg_no Tryz.underlying111 rfl
theorem enters41 : Enters Tryz.prog 41 := ⟨_, Tryz.func41, by kernel_rfl, by kernel_rfl⟩
theorem enters75 : Enters Tryz.prog 75 := ⟨_, Tryz.func75, by kernel_rfl, by kernel_rfl⟩
theorem size111 : (Tryz.prog.info? 111).map (·.size) = some 1 := by kernel_rfl
theorem zero111 : (Tryz.prog.info? 111).bind (·.zero) = some (.map none) := by kernel_rfl
instance : Zer Tryz.prog 111 [Value.map none] := ⟨⟨_, zero111, rfl⟩⟩
theorem hash_itC (ps pb : Nat) (A : Option Addr) (m c : Nat) (k : Int) (B : List Int) (hBB : Bytes B) (hm : m ≤ 1000000) (hmc : m ≤ c) (hcm : c ≤ 9223372036854775807) (w0 : World) (hcs : w0.cell? ⟨ps, 0, none⟩ = some (.int .i64 k)) (hcb : w0.cell? ⟨pb, 0, none⟩ = some (.slice A m c)) (hpl : ps < w0.heap.size) (hbl : pb < w0.heap.size) (hsB : Src w0 A m .u8 B) :
  IterC Fence.wide 2 Tryz.prog 75 #[.pointer (some ⟨ps, 0, none⟩), .pointer (some ⟨pb, 0, none⟩)] (fun i => #[.int .i64 (i : Int), .int .u64 (hshI (blkI B k.toNat i))]) (cntH m k) 0 (capA ps pb A m) w0 := by
 by_cases h1 : k < 1
 ·rw [cntH_no (.inl h1)]
  exact hash_iterN0 ps pb A m c k _ _ hm h1 w0 hcs hcb hpl hbl
 ·by_cases h2 : (m : Int) < k
  ·rw [cntH_no (.inr h2)]
   exact hash_iterN1 ps pb A m c k _ _ hm h1 h2 w0 hcs hcb hpl hbl
  ·obtain ⟨s, rfl⟩ : ∃ s : Nat, k = s := ⟨k.toNat, by omega⟩
   obtain ⟨b, ob, rfl, hb, hr⟩ := hsB.2.resolve_left (by omega)
   rw [cntH_yes (by omega) (by omega), Int.toNat_natCast, capA_some (by omega)]
   exact hash_iter ps pb b ob m c s B hBB hsB.1 (by omega) (by omega) hm hmc hcm w0 ⟨hcs, hcb, hr, hpl, hbl, hb⟩
theorem finder_c (A : Option Addr) (m c : Nat) (k : Int) (B : List Int) (hBB : Bytes B) (hm : m ≤ 1000000) (hmc : m ≤ c) (hcm : c ≤ 9223372036854775807) (w : World) (hsB : Src w A m .u8 B) : Calls Tryz.prog 40 #[.slice A m c, .int .i64 k] w fun e w' => ∃ y : Nat × Nat × Nat, e = .returned (.func (.func 73) #[] #[.pointer (some ⟨y.1, 0, none⟩), .pointer (some ⟨y.2.1, 0, none⟩)]) ∧ (w.heap.size ≤ y.1 ∧ w.heap.size ≤ y.2.1 ∧ w.heap.size ≤ y.2.2) ∧ St w [] w' ∧ FindC w' y.1 y.2.1 y.2.2 A m c B k := by
 refine calls_fromM (args := [.slice A m c, .int .i64 k]) Tryz.func40 rfl Tryz.ntmps40 (by simp) ?_
 refine qC [0, 1] ?_
 iterate 2 refine gx ?_
 refine TL.bx1 (fun g1 hg1 => ?_)
 iterate 5 refine gx ?_
 refine TL.makeMap (qA rfl) rfl rfl (fun wm10 mb10 hbmb10 hlmb10 hnmb10 hwmb10 hMmb10 => ?_)
 refine qZ (fun g2 hg2 => ?_)
 refine qz (qA rfl) rfl rfl size111 rfl rfl rfl (i := 0) rfl rfl (by simp [] <;> omega) (cs' := [Value.map (some mb10)]) (rfl) (H' := [⟨g2, 111, [Value.map (some mb10)], 1⟩, ⟨g1, 22, [slice A m c], 1⟩]) rfl ?_
 iterate 7 refine gx ?_
 refine qg (ι := Nat × Nat) (V := fun y => .func (.func 75) #[] #[.pointer (some ⟨y.1, 0, none⟩), .pointer (some ⟨y.2, 0, none⟩)]) (R := fun y => wm10.heap.size ≤ y.1 ∧ wm10.heap.size ≤ y.2) (H' := fun y => [⟨g2, 111, [Value.map (some mb10)], 1⟩, ⟨g1, 22, [slice A m c], 1⟩, ⟨y.1, 3, [int .i64 k], 1⟩, ⟨y.2, 22, [slice A m c], 1⟩]) (qA rfl) rfl enters41 rfl rfl (fun w hs => (hashes_c A m c k w).mono fun e w' ⟨y, he, hR, hw⟩ => ⟨y, he, ⟨Nat.le_trans hs.size hR.1, Nat.le_trans hs.size hR.2⟩, st_call hs hw (fun e he => by rcases List.mem_cons.1 he with rfl | he; exact hR.1; rw [List.mem_singleton.1 he]; exact hR.2)⟩) (fun y hR => ?_)
 obtain ⟨gs, gb⟩ := y
 obtain ⟨hgs, hgb⟩ := hR
 dsimp only at hgs hgb ⊢
 iterate 2 refine gx ?_
 refine qC [2, 4, 5, 13] ?_
 refine gx ?_
 have hn2 := hnmb10 _ List.mem_cons_self
 dsimp only at hn2
 have hwB : St w [] wm10 := (hwmb10).drop (by assumption)
 have hszB := hwB.size
 have hsWm : Src wm10 A m .u8 B := hsB.at_ hwB (by simp)
 have hfr : ∀ e ∈ ([⟨g2, 111, [Value.map (some mb10)], 1⟩, ⟨g1, 22, [slice A m c], 1⟩, ⟨gs, 3, [int .i64 k], 1⟩, ⟨gb, 22, [slice A m c], 1⟩] : List Ent), w.heap.size ≤ e.g := (by intro e he; simp only [List.mem_cons, List.not_mem_nil, or_false] at he; rcases he with rfl | rfl | rfl | rfl <;> (dsimp only; omega))
 refine TC.rangeM (V1 := fun i => .int .i64 (i : Int)) (V2 := fun i => .int .u64 (hshI (blkI B k.toNat i))) (N := cntH m k) (c := 0) (Cap := capA gs gb A m) rfl rfl rfl rfl rfl enters75 (fun w hs => hash_itC gs gb A m c k B hBB hm hmc hcm w ((hs.has (⟨gs, 3, [int .i64 k], 1⟩) (by simp)).cell rfl) ((hs.has (⟨gb, 22, [slice A m c], 1⟩) (by simp)).cell rfl) (hs.has (⟨gs, 3, [int .i64 k], 1⟩) (by simp)).lt (hs.has (⟨gb, 22, [slice A m c], 1⟩) (by simp)).lt (hsB.at_ (hwB.rebase hs hfr) (fun b hb => (qD (by show g2 ≠ b; omega) (qD (by show g1 ≠ b; omega) (qD (by show gs ≠ b; omega) (qD (by show gb ≠ b; omega) qE))))))) (fun lo i W => MInv w [⟨g2, 111, [Value.map (some mb10)], 1⟩, ⟨g1, 22, [slice A m c], 1⟩, ⟨gs, 3, [int .i64 k], 1⟩, ⟨gb, 22, [slice A m c], 1⟩] mb10 B k.toNat lo i W) (fun i => [(5, .pointer (some ⟨g2, 0, none⟩)), (6, .int .i64 (i : Int)), (7, .int .u64 (hshI (blkI B k.toNat i)))]) (fun w1 h1 => MInv.start h1 hMmb10 (qD (by show g2 ≠ mb10; omega) (qD (by show g1 ≠ mb10; omega) (qD (by show gs ≠ mb10; omega) (qD (by show gb ≠ mb10; omega) qE)))) (by omega) hwB hfr) (fun lo i A B hlo h hb => h.beside hb) (fun w hs q hk => by rcases hk with h | h | ⟨hm0, ad, hA, h⟩; (rw [h]; exact (hs.has (⟨gs, 3, [int .i64 k], 1⟩) (by simp)).lt); (rw [h]; exact (hs.has (⟨gb, 22, [slice A m c], 1⟩) (by simp)).lt); (have h2 := (hsB.at_ (hwB.rebase hs hfr) (fun b hb => (qD (by show g2 ≠ b; omega) (qD (by show g1 ≠ b; omega) (qD (by show gs ≠ b; omega) (qD (by show gb ≠ b; omega) qE)))))); rw [hA] at h2; rw [h]; exact h2.blk hm0)) (fun l i v hiN => ?_) (fun l lo i v a hiN hlo hv hcl hI hfr => ?_) (fun lo W hlo hI hD => ?_)
 ·iterate 8 refine gx ?_
  exact TE.asg (qJ (i := 5) rfl (qF (i := 6) rfl (by first | omega | rfl) (qF (i := 7) rfl (by first | rfl | omega) (qO))))
 ·refine (?_ : TC Tryz.prog _ _ v _ _ []) a v hfr (St.refl v)
  have hSt := hI.st
  obtain ⟨es, cc, hes, hme⟩ := hI.mp
  obtain ⟨j, hj⟩ := hme.2 (hshI (blkI B k.toNat i))
  have hg5 := (hSt.has (⟨g2, 111, [Value.map (some mb10)], 1⟩) (by simp))
  have hc5 := hg5.cell (o := 0) rfl
  have hl5 := hg5.lt
  have hir := hsh_range (blkI B k.toNat i)
  rcases hfx : firstH B k.toNat i (hshI (blkI B k.toNat i)) with _ | off
  ·have hnm : ∀ q, ((lo ≤ q ∧ q < lo + 2 + 0) ∨ capA gs gb A m q) → q ≠ mb10 := fun q hq => by
    rcases hq with hq | h | h | ⟨hm0, ad, hA, h⟩
    ·have := hI.ml; omega
    ·rw [h]; exact hI.ne (⟨gs, 3, [int .i64 k], 1⟩) (by simp)
    ·rw [h]; exact hI.ne (⟨gb, 22, [slice A m c], 1⟩) (by simp)
    ·have h2 := hsB; rw [hA] at h2; have := h2.blk hm0; have := hI.nm; omega
   iterate 3 refine gx ?_
   refine qB (qA rfl) rfl (qN rfl agg111 rfl (qk hc5 hl5 qE)) ?_
   refine gx ?_
   refine qB (qA rfl) rfl (Gets.lookNo hes (by intro e he; cases he) rfl Tryz.underlying111 Tryz.underlying73 zero3 rfl rfl (by rw [hfx] at hj; exact hj)) ?_
   iterate 7 refine gx ?_
   refine qC [5, 6, 7, 9] ?_
   iterate 6 refine gx ?_
   refine qd rfl ?_
   refine gx ?_
   refine qB (qA rfl) rfl (qN rfl agg111 rfl (qk hc5 hl5 qE)) ?_
   iterate 2 refine gx ?_
   refine TL.updH hes (qA rfl) rfl rfl Tryz.underlying111 Tryz.underlying73 rfl rfl rfl (by rw [hfx] at hj; exact hj) (fun v2 q1 q2 q3 q4 q5 q6 => ?_)
   iterate 2 refine gx ?_
   exact TE.roundM (fun w hs => ⟨(hI.put hme hfx q1 q2 q3 q4 q5 q6).call hs, holds_put (fun k hk => hnm k hk) q4 q5 hs, Nat.le_trans hv (Nat.le_trans q4 hs.size)⟩)
  ·iterate 3 refine gx ?_
   refine qB (qA rfl) rfl (qN rfl agg111 rfl (qk hc5 hl5 qE)) ?_
   refine gx ?_
   refine qB (qA rfl) rfl (Gets.lookYes hes (by intro e he; cases he) rfl Tryz.underlying111 Tryz.underlying73 zero3 rfl rfl (by rw [hfx] at hj; exact hj)) ?_
   iterate 7 refine gx ?_
   refine qC [5, 6, 7, 9] ?_
   iterate 6 refine gx ?_
   refine qa rfl ?_
   iterate 2 refine gx ?_
   exact TE.roundM (fun w hs => ⟨(hI.next (by rw [hfx]; exact Option.some_ne_none _)).call hs, holds_call hs, Nat.le_trans hv hs.size⟩)
 ·iterate 4 refine gx ?_
  refine qB (qA rfl) rfl (Gets.makeFunc rfl rfl rfl) ?_
  iterate 4 refine gx ?_
  refine TE.markM (fun u => St w [⟨g2, 111, [Value.map (some mb10)], 1⟩, ⟨g1, 22, [slice A m c], 1⟩, ⟨gs, 3, [int .i64 k], 1⟩, ⟨gb, 22, [slice A m c], 1⟩] u ∧ MapAt u mb10 B k.toNat (cntH m k)) hD (fun u hu => hI.end_ hu) (fun u hM => ?_) (.inl rfl)
  exact qK rfl rfl (fun w2 hs2 => by have hM1 := hM.1.call' hs2; have hM2 := hM.2.at_ hs2 (by simp); exact ⟨(g2, g1, mb10), rfl, ⟨by omega, by omega, by omega⟩, zJ [⟨g2, 111, [Value.map (some mb10)], 1⟩, ⟨g1, 22, [slice A m c], 1⟩, ⟨gs, 3, [int .i64 k], 1⟩, ⟨gb, 22, [slice A m c], 1⟩] (by rw [List.append_nil]; exact hM1) hfr, ⟨(hM1.has (⟨g2, 111, [Value.map (some mb10)], 1⟩) (by simp)).cell rfl, (hM1.has (⟨g1, 22, [slice A m c], 1⟩) (by simp)).cell rfl, hM2, (hM1.has (⟨g2, 111, [Value.map (some mb10)], 1⟩) (by simp)).lt, (hM1.has (⟨g1, 22, [slice A m c], 1⟩) (by simp)).lt⟩⟩)
end Go.Proofs.YtegddcklbmonfaaGreatDoor
/-
 DERIVED: THE SHELF's CONTRACTS AT THIS DUMP, IN PLAIN WORDS (tools/lay-plain.mjs out of 'YtegddcklbmonfaaGreatDoorLayI.lean', which tools/lay-shelf.mjs wrote): THE SAME DECLARATIONS UNDER THE SAME NAMES: 'import', 'namespace', 'open', 'def', 'theorem' AND NOTHING ELSE: no command of the shelf's: FOR A HAND-IN. Each laying: the table of numbers ('.._ren') and one theorem, a field a fact of the dump's own or the kernel's comparison; each contract: ONE APPLICATION.
-/
namespace Go.Proofs
open Go.Shelf
def Tryz.lays185_ren : Go.Shelf.Ren := ⟨fun | 185 => 74 | 187 => 99 | 115 => 100 | 253 => 101 | 224 => 102 | 254 => 103 | 255 => 114 | 291 => 115 | n => n, fun | 37 => 22 | 3 => 3 | 4 => 4 | 0 => 0 | 5 => 5 | 46 => 126 | 9 => 9 | 146 => 155 | 51 => 96 | n => n, fun | 1 => 1 | n => n⟩
theorem Tryz.lays185 : Go.Proofs.Lays.n185 Tryz.prog Tryz.lays185_ren := {
 mixed := by kernel_rfl
 f115 := Tryz.func100.trans (congrArg some (by kernel_rfl))
 f185 := Tryz.func74.trans (congrArg some (by kernel_rfl))
 f187 := Tryz.func99.trans (congrArg some (by kernel_rfl))
 f224 := Tryz.func102.trans (congrArg some (by kernel_rfl))
 f253 := Tryz.func101.trans (congrArg some (by kernel_rfl))
 f254 := Tryz.func103.trans (congrArg some (by kernel_rfl))
 f255 := Tryz.func114.trans (congrArg some (by kernel_rfl))
 f291 := Tryz.func115.trans (congrArg some (by kernel_rfl))
 t0 := Tryz.underlying0
 a0 := Tryz.isAgg0
 z0 := Tryz.sizeOf0
 v0 := Tryz.zeroValue0
 t3 := Tryz.underlying3
 a3 := Tryz.isAgg3
 z3 := Tryz.sizeOf3
 v3 := Tryz.zeroValue3
 t4 := Tryz.underlying4
 a4 := Tryz.isAgg4
 z4 := Tryz.sizeOf4
 v4 := Tryz.zeroValue4
 t5 := Tryz.underlying5
 a5 := Tryz.isAgg5
 z5 := Tryz.sizeOf5
 v5 := Tryz.zeroValue5
 t9 := Tryz.underlying9
 a9 := Tryz.isAgg9
 z9 := Tryz.sizeOf9
 v9 := Tryz.zeroValue9
 t37 := Tryz.underlying22
 a37 := Tryz.isAgg22
 z37 := Tryz.sizeOf22
 v37 := Tryz.zeroValue22
 t46 := Tryz.underlying126
 a46 := Tryz.isAgg126
 z46 := Tryz.sizeOf126
 v46 := Tryz.zeroValue126
 t51 := Tryz.underlying96
 a51 := Tryz.isAgg96
 z51 := Tryz.sizeOf96
 v51 := Tryz.zeroValue96
 t146 := Tryz.underlying155
 a146 := Tryz.isAgg155
 z146 := Tryz.sizeOf155
 v146 := Tryz.zeroValue155
 g1 := by kernel_rfl }
end Go.Proofs
/-
 The code of layer 8: the finder's closure.
-/
namespace Go.Proofs.YtegddcklbmonfaaGreatDoor
set_option linter.unusedVariables false
set_option linter.unusedSimpArgs false
set_option maxRecDepth 100000
set_option maxHeartbeats 2000000
open Go.Value (int slice)
open Go Go.RowKit
theorem enters74 : Enters Tryz.prog 74 := ⟨_, Tryz.func74, by kernel_rfl, by kernel_rfl⟩
theorem st_drewN {w : World} : ∀ q, St w [] (w.drewN q)
 | 0 => St.refl w
 | q + 1 => (st_drewN q).drew
def MaxC (w : World) : Prop := 1 < w.heap.size ∧ ∃ mx : Int, w.cell? ⟨1, 0, none⟩ = some (.int .i64 mx)
theorem MaxC.at_ {w0 w : World} {H : List Ent} (h : MaxC w0) (hs : St w0 H w) (hne : ∀ e ∈ H, e.g ≠ 1) : MaxC w := by
 obtain ⟨h1, mx, h2⟩ := h
 exact ⟨Nat.lt_of_lt_of_le h1 hs.size, mx, (hs.old_cell (ad := ⟨1, 0, none⟩) h1 hne).trans h2⟩
theorem bidx_c (b1 o1 n c1 b2 o2 k c2 : Nat) (xs ys : List Int) (w : World) (hx : xs.length = n) (hy : ys.length = k) (hB1 : Bytes xs) (hB2 : Bytes ys) (h1 : RowI w b1 o1 n .u8 xs) (h2 : RowI w b2 o2 k .u8 ys) (hnc : n ≤ c1) (hn : n ≤ 1000000) (hk : k ≤ 1000000) (hMX : MaxC w) :
  Calls Tryz.prog 74 #[.slice (some ⟨b1, o1, none⟩) n c1, .slice (some ⟨b2, o2, none⟩) k c2] w fun e w' => e = .returned (.int .i64 (Lib.index (Lib.bytesOf xs) (Lib.bytesOf ys))) ∧ St w [] w' := by
 obtain ⟨_, mx, hmx⟩ := hMX
 have hadd : ∀ b o i : Nat, (⟨b, o, none⟩ : Addr).add i = ⟨b, o + i, none⟩ := Lib.add_plain'
 have h := Any.bytes_Index_at (P := Tryz.prog) (ρ := Tryz.lays185_ren) Tryz.lays185 ⟨b1, o1, none⟩ ⟨b2, o2, none⟩ n c1 k c2 xs ys mx w hx hy (fun x hx => by have := hB1 x hx; omega) (fun x hx => by have := hB2 x hx; omega)
  (fun i hi => by rw [hadd]; exact h1 i hi) (fun i hi => by rw [hadd]; exact h2 i hi) hnc (by omega) (by omega) hmx
 refine Calls.mono (f := 74) h ?_
 rintro e w' ⟨he, q, rfl⟩
 exact ⟨he, st_drewN q⟩
theorem ffind_no (gm gf mb : Nat) (A1 : Option Addr) (m c : Nat) (B : List Int) (s : Nat) (A2 : Option Addr) (m2 c2 : Nat) (P2 : List Int) (hs1 : 1 ≤ s) (hm2 : m2 = s) (hmc : m ≤ c) (hcm : c ≤ 9223372036854775807) (hm : m ≤ 1000000) (hs2 : s ≤ 1000000) (hBB : Bytes B) (hPP : Bytes P2) (w : World) (hF : FindC w gm gf mb A1 m c B s) (hsF : Src w A1 m .u8 B) (hsP : Src w A2 m2 .u8 P2) (hMX : MaxC w) (hfx : firstH B s (cntH m s) (hshI P2) = none) : Calls Tryz.prog 73 #[.slice A2 m2 c2, .int .u64 (hshI P2), .pointer (some ⟨gm, 0, none⟩), .pointer (some ⟨gf, 0, none⟩)] w fun e w' => e = .returned (.int .i64 (occI B P2 (s : Int))) ∧ St w [] w' := by
 obtain ⟨es, cc, hes, hme⟩ := hF.mp
 obtain ⟨j, hj⟩ := hme.2 (hshI P2)
 rw [Int.toNat_natCast] at hj hme
 have hir := hsh_range P2
 have hPl := hsP.1
 have hbl := hsF.1
 refine qM (args := [.slice A2 m2 c2, .int .u64 (hshI P2), .pointer (some ⟨gm, 0, none⟩), .pointer (some ⟨gf, 0, none⟩)]) Tryz.func73 rfl Tryz.ntmps73 (by simp) ?_
 refine qC [0, 1, 2, 3] ?_
 iterate 7 refine gx ?_
 refine qB (qA rfl) rfl (qN rfl agg111 rfl (qk hF.cm hF.lm qE)) ?_
 refine gx ?_
 refine qB (qA rfl) rfl (Gets.lookNo hes (by intro e he; cases he) rfl Tryz.underlying111 Tryz.underlying73 zero3 rfl rfl (by rw [hfx] at hj; exact hj)) ?_
 iterate 7 refine gx ?_
 refine qC [0, 3, 6, 7, 8] ?_
 iterate 7 refine gx ?_
 refine qd rfl ?_
 iterate 7 refine gx ?_
 exact qK rfl rfl (fun w hs => ⟨ret_i (by rw [occ_no (match_no (F := B) hs1 (by omega) (by rw [hbl]; exact hfx))]), hs⟩)
theorem ffind_yes (gm gf mb : Nat) (b ob m c : Nat) (B : List Int) (s : Nat) (A2 : Option Addr) (m2 c2 : Nat) (P2 : List Int) (hs1 : 1 ≤ s) (hm2 : m2 = s) (hmc : m ≤ c) (hcm : c ≤ 9223372036854775807) (hm : m ≤ 1000000) (hs2 : s ≤ 1000000) (hBB : Bytes B) (hPP : Bytes P2) (w : World) (hF : FindC w gm gf mb (some ⟨b, ob, none⟩) m c B s) (hsF : Src w (some ⟨b, ob, none⟩) m .u8 B) (hsP : Src w A2 m2 .u8 P2) (hMX : MaxC w) (off : Nat) (hfx : firstH B s (cntH m s) (hshI P2) = some off) : Calls Tryz.prog 73 #[.slice A2 m2 c2, .int .u64 (hshI P2), .pointer (some ⟨gm, 0, none⟩), .pointer (some ⟨gf, 0, none⟩)] w fun e w' => e = .returned (.int .i64 (occI B P2 (s : Int))) ∧ St w [] w' := by
 obtain ⟨es, cc, hes, hme⟩ := hF.mp
 obtain ⟨j, hj⟩ := hme.2 (hshI P2)
 rw [Int.toNat_natCast] at hj hme
 have hir := hsh_range P2
 have hPl := hsP.1
 have hbl := hsF.1
 obtain ⟨hof, hmt⟩ := match_from (F := B) hs1 (by omega) hBB hPP (by rw [hbl]; exact hfx)
 obtain ⟨ri, hri⟩ : ∃ ri : Int, ri = (Lib.index (Lib.bytesOf (B.drop off)) (Lib.bytesOf P2)) := ⟨_, rfl⟩
 have hge := Lib.index_ge (Lib.bytesOf (B.drop off)) (Lib.bytesOf P2)
 rw [← hri] at hmt hge
 have hrx : ri < 0 ∧ -1 ≤ ri ∨ 0 ≤ ri ∧ off + ri ≤ m := by rcases hmt with ⟨h1, h2⟩ | ⟨i, h1, h2, h3⟩; exact .inl ⟨h1, hge⟩; exact .inr ⟨by omega, by omega⟩
 rw [hbl] at hof
 obtain ⟨b1, ob1, hA1, hb1, hr1⟩ := hsF.2.resolve_left (by omega)
 cases hA1
 refine qM (args := [.slice A2 m2 c2, .int .u64 (hshI P2), .pointer (some ⟨gm, 0, none⟩), .pointer (some ⟨gf, 0, none⟩)]) Tryz.func73 rfl Tryz.ntmps73 (by simp) ?_
 refine qC [0, 1, 2, 3] ?_
 iterate 7 refine gx ?_
 refine qB (qA rfl) rfl (qN rfl agg111 rfl (qk hF.cm hF.lm qE)) ?_
 refine gx ?_
 refine qB (qA rfl) rfl (Gets.lookYes hes (by intro e he; cases he) rfl Tryz.underlying111 Tryz.underlying73 zero3 rfl rfl (by rw [hfx] at hj; exact hj)) ?_
 iterate 7 refine gx ?_
 refine qC [0, 3, 6, 7, 8] ?_
 iterate 7 refine gx ?_
 refine qa rfl ?_
 iterate 3 refine gx ?_
 obtain ⟨b2, o2, hA2, hb2, hr2⟩ := hsP.2.resolve_left (by omega)
 subst hA2
 refine gx ?_
 refine qB (qA rfl) rfl (qN rfl agg22 rfl (qk hF.cf hF.lf qE)) ?_
 refine gx ?_
 refine qB (qA rfl) rfl (zH rfl Tryz.underlying22 size5 rfl (bnd.at_ (l := off) rfl (by omega)) bnd.dflt (by omega) (by omega) (A' := some ⟨b, (ob + off), none⟩) (cut_is (by omega) (by omega)) (ln := (m - off)) (cp := (c - off)) (by omega) (by omega)) ?_
 refine gx ?_
 refine qL (qA rfl) rfl enters74 rfl rfl (v := .int .i64 ri) (fun w hs => (bidx_c b (ob + off) (m - off) (c - off) b2 o2 m2 c2 (B.drop off) P2 w (by rw [List.length_drop, hbl]) hPl (hBB.drop' off) hPP (rowI_drop (hr1.keepH hs hb1 qE) (by omega)) (hr2.keepH hs hb2 qE) (by omega) (by omega) (by omega) (hMX.at_ hs qE)).mono fun e w' h => by rw [← hri] at h; exact h) ?_
 iterate 3 refine gx ?_
 refine qC [6, 7, 9] ?_
 iterate 7 refine gx ?_
 refine qP rfl (fun h1 => ?_) (fun h1 => ?_)
 ·iterate 7 refine gx ?_
  exact qK rfl rfl (fun w hs => ⟨ret_i (by rcases hmt with ⟨h1, h2⟩ | ⟨i, h1, h2, h3⟩; rw [occ_no h2]; omega), hs⟩)
 ·iterate 6 refine gx ?_
  refine qB (qA rfl) rfl (qQ rfl rfl rfl (r := ((off : Int) + ri)) (w64 (by omega) (by omega))) ?_
  iterate 4 refine gx ?_
  exact qK rfl rfl (fun w hs => ⟨ret_i (by rcases hmt with ⟨h1, h2⟩ | ⟨i, h1, h2, h3⟩; omega; rw [occ_yes h2]; omega), hs⟩)
theorem ffind_c (gm gf mb : Nat) (A1 : Option Addr) (m c : Nat) (B : List Int) (s : Nat) (A2 : Option Addr) (m2 c2 : Nat) (P2 : List Int) (hs1 : 1 ≤ s) (hm2 : m2 = s) (hmc : m ≤ c) (hcm : c ≤ 9223372036854775807) (hm : m ≤ 1000000) (hs2 : s ≤ 1000000) (hBB : Bytes B) (hPP : Bytes P2) (w : World) (hF : FindC w gm gf mb A1 m c B s) (hsF : Src w A1 m .u8 B) (hsP : Src w A2 m2 .u8 P2) (hMX : MaxC w) : Calls Tryz.prog 73 #[.slice A2 m2 c2, .int .u64 (hshI P2), .pointer (some ⟨gm, 0, none⟩), .pointer (some ⟨gf, 0, none⟩)] w fun e w' => e = .returned (.int .i64 (occI B P2 (s : Int))) ∧ St w [] w' := by
 cases hfx : firstH B s (cntH m s) (hshI P2) with
 | none => exact ffind_no gm gf mb A1 m c B s A2 m2 c2 P2 hs1 hm2 hmc hcm hm hs2 hBB hPP w hF hsF hsP hMX hfx
 | some off =>
  have h1 := cntH_lt (firstH_some hfx).1
  obtain ⟨b, ob, rfl, _, _⟩ := hsF.2.resolve_left (by omega)
  exact ffind_yes gm gf mb b ob m c B s A2 m2 c2 P2 hs1 hm2 hmc hcm hm hs2 hBB hPP w hF hsF hsP hMX off hfx
/-
 The wrap.
-/
open Go Go.RowKit Go.ChangeShapes Go.WideShapes Go.ChangeAt Go.Joins Go.Deep
theorem returnsInHanded_both {H : Type} {enc : TypeId × Value → H} {a : Assume} {C : Checked} {os : Os} {f : FuncId} {fn : Func} {s : ChangeSpec} {conds : List PathCond} {apart fresh handsOn again : Bool} {X : World → Array Value → Prop}
  (hX : ∀ (w w' : World) (args : Array Value), w.heap = w'.heap → X w args → X w' args)
  (own : ownKnob C.prog.godebug = none) (started : os.Started) (noInit : C.prog.inits.idxOf? f = none) (hfn : C.prog.funcs[f]? = some fn)
  (witness : ∃ (w : World) (tape : Tape) (i : Input), w.os = os ∧ (w.forCall tape i).Shaped C.prog ∧ i.vars = [] ∧ Input.okWide C.prog (w.forCall tape i) .any w.heap.size f i ∧
   ((s.pre enc C.prog fn conds apart (w.forCall tape i).memory i.args ∧ X (w.forCall tape i).memory i.args) ∧ sizedMet enc C.prog fn (OpenSpec.ofChange s) apart (w.forCall tape i).memory i.args) ∧ a.holds C.prog (lone (Frame.enter C.prog f i.args .normal) [] (w.forCall tape i)))
  (contract : ∀ (W : World) (base : Nat) (args : Array Value) (ds gs : List (DataW H)) (before : List MemPlace),
   (∀ (j : Nat) t v, fn.params[j]? = some t → args[j]? = some v → Value.okWide C.prog W .any base t v) →
   DataW.Whole enc C.prog fn.params.toList s.vars apart W args.toList ds gs before →
   (DataW.weightsEach C.prog (fn.params.toList ++ s.plain.varTypes C.prog) (ds ++ gs)).all (· ≤ reachBytes) = true → X W args → W.ShapedOpen C.prog →
   Calls C.prog f args W fun e W' => ∃ v, e = .returned v ∧ s.post enc C.prog fn apart fresh handsOn again W args v W') :
  ReturnsInHanded a C os f .any (fun w args => (s.pre enc C.prog fn conds apart w args ∧ X w args) ∧ sizedMet enc C.prog fn (OpenSpec.ofChange s) apart w args) (s.post enc C.prog fn apart fresh handsOn again) := by
 refine returnsInHanded_of_calls own started noInit witness ?_
 intro w tape i _ hsh _ hok hpre _
 obtain ⟨_, _, _, fn', hfn', _, _, _, _, hval⟩ := hok
 obtain rfl : fn' = fn := Option.some.inj (hfn'.symm.trans hfn)
 obtain ⟨⟨⟨ds, gs, before, hw, _⟩, hx⟩, hz⟩ := hpre
 refine (contract (w.forCall tape i) w.heap.size i.args ds gs before hval (DataW.Whole.of_heap (w' := w.forCall tape i) (by rfl) hw) (hz.weights hw) (hX _ _ _ (by rfl) hx) hsh).mono fun e W' ⟨v, he, hp⟩ => ?_
 subst he
 exact ChangeSpec.post_blind hp
theorem maxC_of {W : World} (h : W.ShapedOpen Tryz.prog) : MaxC W := by
 obtain ⟨m, hm⟩ := cell_of_shapedOpen_int (g := 1) (t := 3) (zero := #[.int .i64 0]) (k := .i64) h (of_decide_eq_true (by kernel_rfl)) (by kernel_rfl) rfl (by kernel_rfl) (by kernel_rfl) Tryz.underlying3
 exact ⟨World.block_lt_of_cell? W _ hm, m, hm⟩
/-
 The commands that the program makes, beside the greedy ones; commands in memory of the call's own, as values.
-/
def litP (off : Nat) (P : List Int) : List PC := if P = [] then [] else [(2, (off : Int), 0, 0, P)]
theorem litP_nil (off : Nat) : litP off [] = [] := if_pos rfl
theorem litP_some {off : Nat} {P : List Int} (h : P ≠ []) : litP off P = [(2, (off : Int), 0, 0, P)] := if_neg h
theorem litP_len (off : Nat) (P : List Int) : (litP off P).length ≤ 1 := by unfold litP; split <;> simp
def noLit (ps : List PC) : Prop := ∀ c, ps.getLast? = some c → ¬ c.1 = 2
theorem noLit_nil : noLit [] := fun c h => by cases h
theorem noLit_copy (ps : List PC) (a b c : Int) (d : List Int) : noLit (ps ++ [(1, a, b, c, d)]) := fun x h => by
 rw [List.getLast?_append] at h
 simp at h; subst h; show ¬ (1 : Int) = 2; decide
theorem push_lit {ps : List PC} {e : Nat} {seg : List Int} {x : Int} (h : noLit ps) : pushL (ps ++ litP e seg) (e + seg.length) x = ps ++ litP e (seg ++ [x]) := by
 rw [litP_some (P := seg ++ [x]) (by simp)]
 by_cases hs : seg = []
 ·subst hs
  rw [litP_nil, List.append_nil]
  unfold pushL
  cases hl : ps.getLast? with
  | none => rfl
  | some c => simp only [if_neg (h c hl)]; rfl
 ·rw [litP_some hs]
  unfold pushL
  rw [List.getLast?_append]
  simp [addLit]
structure GI (old new : List Int) (k : Int) (i e : Nat) (ps : List PC) : Prop where
 le : e ≤ new.length
 nl : noLit ps
 gr : greedy old new k (max e i) (ps ++ litP e ((new.take (max e i)).drop e))
theorem GI.zero (old new : List Int) (k : Int) : GI old new k 0 0 [] := ⟨Nat.zero_le _, noLit_nil, by
 show greedy old new k 0 ([] ++ litP 0 ((new.take 0).drop 0))
 rw [List.take_zero, List.drop_nil, litP_nil]
 exact greedy_zero old new k⟩
theorem GI.skip {old new : List Int} {k : Int} {i e : Nat} {ps : List PC} (h : GI old new k i e ps) (hi : i < e) : GI old new k (i + 1) e ps := by
 obtain ⟨h1, h2, h3⟩ := h
 rw [show max e i = e by omega] at h3
 exact ⟨h1, h2, by rw [show max e (i + 1) = e by omega]; exact h3⟩
theorem seg_snoc {new : List Int} {e i : Nat} (h1 : e ≤ i) (h2 : i < new.length) : (new.take (i + 1)).drop e = (new.take i).drop e ++ [new.getD i 0] := by
 rw [List.take_succ_eq_append_getElem h2, getD_in h2, List.drop_append_of_le_length (by rw [List.length_take]; omega)]
theorem seg_len {new : List Int} {e i : Nat} (h1 : e ≤ i) (h2 : i ≤ new.length) : ((new.take i).drop e).length = i - e := by
 rw [List.length_drop, List.length_take]; omega
theorem GI.lit {old new : List Int} {k : Int} {i e : Nat} {ps : List PC} (h : GI old new k i e ps) (hi : e ≤ i) (hl : i < new.length) (hm : matchI old (new.drop i) k = none) : GI old new k (i + 1) e ps := by
 obtain ⟨h1, h2, h3⟩ := h
 rw [show max e i = i by omega] at h3
 have h4 := greedy_lit h3 hl hm
 have h5 := push_lit (e := e) (seg := (new.take i).drop e) (x := new.getD i 0) h2
 rw [seg_len hi (by omega), show e + (i - e) = i by omega, ← seg_snoc hi hl] at h5
 rw [h5] at h4
 exact ⟨h1, h2, by rw [show max e (i + 1) = i + 1 by omega]; exact h4⟩
theorem GI.copy {old new : List Int} {k : Int} {i e q : Nat} {ps : List PC} (h : GI old new k i e ps) (hi : e ≤ i) (hl : i < new.length) (hm : matchI old (new.drop i) k = some q) :
  GI old new k (i + 1) (i + eqN (old.drop q) (new.drop i)) (ps ++ litP e ((new.take i).drop e) ++ [(1, (i : Int), (q : Int), (eqN (old.drop q) (new.drop i) : Int), [])]) := by
 obtain ⟨h1, h2, h3⟩ := h
 rw [show max e i = i by omega] at h3
 have h4 := greedy_copy h3 hl hm
 have h5 := matchI_spec hm
 rw [List.length_drop] at h5
 refine ⟨by omega, noLit_copy _ _ _ _ _, ?_⟩
 rw [show max (i + eqN (old.drop q) (new.drop i)) (i + 1) = i + eqN (old.drop q) (new.drop i) by omega]
 have e1 : (new.take (i + eqN (old.drop q) (new.drop i))).drop (i + eqN (old.drop q) (new.drop i)) = [] := List.drop_eq_nil_of_le (by rw [List.length_take]; omega)
 rw [e1, litP_nil, List.append_nil]
 exact h4
theorem GI.done {old new : List Int} {k : Int} : ∀ (d i e : Nat) (ps : List PC), new.length ≤ i + d → GI old new k i e ps → (∀ p, i ≤ p → p < new.length → matchI old (new.drop p) k = none) → ps ++ litP e (new.drop e) = cmdsL old new k
 | 0, i, e, ps, hd, h, hm => by
  obtain ⟨h1, h2, h3⟩ := h
  have h4 := h3.1
  have e1 : max e i = new.length := by omega
  rw [e1, List.take_length] at h3
  exact greedy_end h3 (Nat.le_refl _)
 | d + 1, i, e, ps, hd, h, hm => by
  by_cases hi : i < e
  ·exact GI.done d (i + 1) e ps (by omega) (h.skip hi) (fun p hp => hm p (by omega))
  ·by_cases hl : i < new.length
   ·exact GI.done d (i + 1) e ps (by omega) (h.lit (by omega) hl (hm i (Nat.le_refl _) hl)) (fun p hp => hm p (by omega))
   ·exact GI.done 0 i e ps (by omega) h hm
theorem GI.end_ {old new : List Int} {k : Int} {e : Nat} {ps : List PC} (h : GI old new k (cntH new.length k) e ps) : ps ++ litP e (new.drop e) = cmdsL old new k :=
 GI.done new.length _ e ps (by omega) h fun p hp hl => matchI_no (by
  by_cases hk : k < 1
  ·exact .inl hk
  ·right
   rw [List.length_drop]
   by_cases h2 : (new.length : Int) < k
   ·omega
   ·obtain ⟨s, rfl⟩ : ∃ s : Nat, k = s := ⟨k.toNat, by omega⟩
    rw [cntH_yes (by omega) (by omega)] at hp
    omega)
def OwnL (N : Nat) (t : TypeId) (v : Value) (ps : List PC) (He : List Ent) : Prop :=
 ∃ (Cs : List CV) (Hs Hd : List Ent), Cs.map valC = ps ∧ (∀ x ∈ Cs, x.m = x.B.length) ∧ He = Hs ++ Hd ∧ OwnS N t 5 v Cs.length (flatC Cs) Hs ∧ OwnB N Cs Hd
theorem OwnL.nil (N : Nat) (t : TypeId) : OwnL N t (.slice none 0 0) [] [] := ⟨[], [], [], rfl, (fun x h => by cases h), rfl, OwnS.nil N t 5, OwnB.nil N⟩
theorem OwnL.new {N : Nat} {t : TypeId} {v : Value} {ps : List PC} {He : List Ent} (h : OwnL N t v ps He) : ∀ e ∈ He, N ≤ e.g := by
 obtain ⟨Cs, Hs, Hd, _, _, rfl, h1, h2⟩ := h
 intro e he
 rcases List.mem_append.1 he with he | he
 ·exact h1.new e he
 ·exact h2.1 e he
theorem OwnL.mono {N N' : Nat} {t : TypeId} {v : Value} {ps : List PC} {He : List Ent} (h : OwnL N' t v ps He) (hN : N ≤ N') : OwnL N t v ps He := by
 obtain ⟨Cs, Hs, Hd, h1, h2, h3, h4, h5⟩ := h
 exact ⟨Cs, Hs, Hd, h1, h2, h3, h4.mono hN, ⟨fun e he => Nat.le_trans hN (h5.1 e he), h5.2⟩⟩
theorem OwnL.form {N : Nat} {t : TypeId} {v : Value} {ps : List PC} {He : List Ent} (h : OwnL N t v ps He) : ∃ A c, v = .slice A ps.length c ∧ ps.length ≤ c ∧ c ≤ 9223372036854775807 := by
 obtain ⟨Cs, Hs, Hd, h1, h2, h3, h4, h5⟩ := h
 obtain ⟨A, c, e1, e2, e3⟩ := h4.form
 have hl : Cs.length = ps.length := by rw [← h1, List.length_map]
 rw [hl] at e1 e2
 exact ⟨A, c, e1, e2, e3⟩
theorem OwnB.addC {N : Nat} {Fs : List CV} {He : List Ent} (h : OwnB N Fs He) {t f l : Int} (hn : NumC ⟨1, t, f, l, none, 0, 0, []⟩) : OwnB N (Fs ++ [⟨1, t, f, l, none, 0, 0, []⟩]) He :=
 ⟨h.1, nums_add h.2.1 hn, fun w hl => dat_add (h.2.2 w hl) ⟨src_no, bytes_no⟩⟩
theorem OwnB.addL {N g tt tot m : Nat} {Fs : List CV} {He : List Ent} (h : OwnB N Fs He) {t : Int} {P : List Int} (hg : N ≤ g) (hP : P.length = m) (hb : Bytes P) {c : Nat} (hn : NumC ⟨2, t, 0, 0, some ⟨g, 0, none⟩, m, c, P⟩) :
  OwnB N (Fs ++ [⟨2, t, 0, 0, some ⟨g, 0, none⟩, m, c, P⟩]) (He ++ [⟨g, tt, P.map (int .u8), tot⟩]) :=
 ⟨fun e he => by
  rcases List.mem_append.1 he with he | he
  ·exact h.1 e he
  ·rw [List.mem_singleton.1 he]; exact hg, nums_add h.2.1 hn, fun w hl => dat_add (h.2.2 w fun e he => hl e (List.mem_append.2 (.inl he))) ⟨src_ent (hl _ (List.mem_append.2 (.inr List.mem_cons_self))) hP, hb⟩⟩
theorem OwnL.ownD {N : Nat} {t : TypeId} {A : Option Addr} {m c : Nat} {ps : List PC} {He : List Ent} (h : OwnL N t (.slice A m c) ps He) : ∃ Cs : List CV, Cs.map valC = ps ∧ (∀ x ∈ Cs, x.m = x.B.length) ∧ m = ps.length ∧ OwnD N A m Cs He := by
 obtain ⟨Cs, Hs, Hd, h1, h2, rfl, h4, h5⟩ := h
 have hl : Cs.length = ps.length := by rw [← h1, List.length_map]
 have hm : m = Cs.length := by
  rcases h4.2 with ⟨e1, e2, _⟩ | ⟨g, cap, e1, _⟩
  ·cases e1; exact e2.symm
  ·cases e1; rfl
 subst hm
 refine ⟨Cs, h1, h2, hl, fun e he => ?_, h5.2.1, ?_, fun w hw => ⟨h4.srcC (fun e he => hw e (List.mem_append.2 (.inl he))), h5.2.2 w (fun e he => hw e (List.mem_append.2 (.inr he)))⟩⟩
 ·rcases List.mem_append.1 he with he | he
  ·exact h4.new e he
  ·exact h5.1 e he
 ·rcases h4.2 with ⟨e1, e2, _⟩ | ⟨g, cap, e1, _⟩
  ·exact .inl e2
  ·cases e1; exact .inr ⟨g, 0, rfl⟩
/-
 The code of layer 8: addLiteral.
-/
theorem enters76 : Enters Tryz.prog 76 := ⟨_, Tryz.func76, by kernel_rfl, by kernel_rfl⟩
theorem zero22 : (Tryz.prog.info? 22).bind (·.zero) = some (.slice none 0 0) := by kernel_rfl
theorem litP_nil' {e : Nat} {P : List Int} (h : P.length = 0) : litP e P = [] := if_pos (List.length_eq_zero_iff.1 h)
theorem ms_add {Cs : List CV} {x : CV} (h : ∀ y ∈ Cs, y.m = y.B.length) (hx : x.m = x.B.length) : ∀ y ∈ Cs ++ [x], y.m = y.B.length := fun y hy => by
 rcases List.mem_append.1 hy with hy | hy
 ·exact h y hy
 ·rw [List.mem_singleton.1 hy]; exact hx
theorem lit_keep {B w : World} {Hc Hd X Y He2 : List Ent} {d : Ent} (h : St B (((Hc ++ Hd) ++ X) ++ He2) w) (hX : X.Perm (d :: Y)) (hY : ∀ e ∈ Y, B.heap.size ≤ e.g) : St B (Hc ++ (He2 ++ (Hd ++ [d]))) w := by
 have hp : (((Hc ++ Hd) ++ X) ++ He2).Perm (Y ++ (Hc ++ (He2 ++ (Hd ++ [d])))) := by
  refine (List.Perm.append_right He2 (List.Perm.append_left (Hc ++ Hd) hX)).trans ?_
  have e1 : ((Hc ++ Hd) ++ d :: Y) ++ He2 = Hc ++ (Hd ++ ([d] ++ (Y ++ He2))) := by simp
  rw [e1]
  have e2 : Y ++ (Hc ++ (He2 ++ (Hd ++ [d]))) = (Y ++ Hc) ++ (He2 ++ (Hd ++ [d])) := by simp
  rw [e2]
  refine List.Perm.trans ?_ (List.Perm.append_right _ List.perm_append_comm)
  rw [List.append_assoc]
  refine List.Perm.append_left Hc ?_
  have e3 : Y ++ (He2 ++ (Hd ++ [d])) = (Y ++ He2) ++ (Hd ++ [d]) := by simp
  have e4 : Hd ++ ([d] ++ (Y ++ He2)) = (Hd ++ [d]) ++ (Y ++ He2) := by simp
  rw [e3, e4]
  exact List.perm_append_comm
 exact zJ Y (h.perm hp) hY
theorem addlit_c (B w : World) (Hc He : List Ent) (v : Value) (ps : List PC) (e0 : Nat) (A2 : Option Addr) (m2 c2 : Nat) (P2 : List Int) (he0 : e0 ≤ 1000000) (hpl : ps.length ≤ 3000000) (hm2 : m2 ≤ 1000000) (hmc2 : m2 ≤ c2) (hcm2 : c2 ≤ 9223372036854775807) (hst : St B (Hc ++ He) w) (hL : OwnL B.heap.size 54 v ps He) (hsP : Src w A2 m2 .u8 P2) (hPP : Bytes P2) : Calls Tryz.prog 43 #[v, .int .i64 (e0 : Int), .slice A2 m2 c2] w fun e w' => ∃ v' He', e = .returned v' ∧ OwnL B.heap.size 54 v' (ps ++ litP e0 P2) He' ∧ St B (Hc ++ He') w' := by
 obtain ⟨Cs, Hs, Hd, hCv, hCm, rfl, hS, hD⟩ := hL
 have hPl := hsP.1
 have hBw := hst.size
 have hCl : Cs.length = ps.length := by rw [← hCv, List.length_map]
 have hst2 : St B ((Hc ++ Hd) ++ Hs) w := hst.perm (by rw [List.append_assoc]; exact List.Perm.append_left Hc List.perm_append_comm)
 refine qM (args := [v, .int .i64 (e0 : Int), .slice A2 m2 c2]) Tryz.func43 rfl Tryz.ntmps43 (by simp) ?_
 refine qC [0, 1, 2] ?_
 iterate 13 refine gx ?_
 refine qP rfl (fun hq0 => ?_) (fun hq0 => ?_)
 ·iterate 8 refine gx ?_
  exact qK rfl rfl (fun w hs => ⟨v, Hs ++ Hd, rfl, ⟨Cs, Hs, Hd, by rw [litP_nil' (by omega), List.append_nil]; exact hCv, hCm, rfl, hS, hD⟩, hst.call' hs⟩)
 ·iterate 7 refine gx ?_
  refine zK (qA rfl) rfl rfl Tryz.underlying65 size22 zero22 rfl (by decide) (by decide) (cells := #[.slice A2 m2 c2]) (tot := 1) (by kernel_rfl) (cs := [.slice A2 m2 c2]) rfl rfl (fun g1 hg1 => ?_)
  refine qg (ι := Nat × Nat) (V := fun yk => .agg ([int .i64 2, int .i64 (e0 : Int), int .i64 0, int .i64 0, slice (some ⟨yk.1, 0, none⟩) m2 yk.2]).toArray) (R := fun yk => (m2 ≤ yk.2 ∧ yk.2 ≤ maxLen) ∧ w.heap.size ≤ (⟨yk.1, 5, P2.map (int .u8), yk.2⟩ : Ent).g) (H' := fun yk => [⟨yk.1, 5, P2.map (int .u8), yk.2⟩, ⟨g1, 22, [slice A2 m2 c2], 1⟩]) (qA rfl) rfl enters76 rfl rfl (fun w hs => (show Calls Tryz.prog 76 #[.int .i64 (e0 : Int), .slice (some ⟨g1, 0, none⟩) 1 1] w (fun e w' => ∃ yk : Nat × Nat, e = .returned (.agg ([int .i64 2, int .i64 (e0 : Int), int .i64 0, int .i64 0, slice (some ⟨yk.1, 0, none⟩) m2 yk.2]).toArray) ∧ (m2 ≤ yk.2 ∧ yk.2 ≤ maxLen) ∧ w.heap.size ≤ (⟨yk.1, 5, P2.map (int .u8), yk.2⟩ : Ent).g ∧ St w [⟨yk.1, 5, P2.map (int .u8), yk.2⟩] w') from (literal1_c (e0 : Int) P2 A2 m2 c2 g1 22 1 w (hs.has (⟨g1, 22, [slice A2 m2 c2], 1⟩) (by simp)) (hsP.at_ hs (fun b hb => (qD (by show g1 ≠ b; omega) qE))) (by omega) (by omega) (by omega)).mono fun e w' ⟨gv, cv, he, hgv, hcv, hmv, hw⟩ => ⟨(gv, cv), he, ⟨hcv, hmv⟩, hgv, hw⟩).mono fun e w' ⟨x, he, hR, hE, hw⟩ => ⟨x, he, ⟨hR, Nat.le_trans hs.size hE⟩, hs.made hw hE⟩) (fun yk ⟨hRk, hEk⟩ => ?_)
  obtain ⟨gk, ck⟩ := yk
  dsimp only at hRk hEk ⊢
  obtain ⟨hck, hmk⟩ := hRk
  unfold maxLen at hmk
  refine zK (qA rfl) rfl rfl Tryz.underlying24 size54 zero54 rfl (by decide) (by decide) (cells := #[.int .i64 2, .int .i64 (e0 : Int), .int .i64 0, .int .i64 0, .slice (some ⟨gk, 0, none⟩) m2 ck]) (tot := 5) (by kernel_rfl) (cs := [.int .i64 2, .int .i64 (e0 : Int), .int .i64 0, .int .i64 0, .slice (some ⟨gk, 0, none⟩) m2 ck]) rfl rfl (fun g2 hg2 => ?_)
  refine TL.appendOver hst2 hS (qA rfl) rfl rfl Tryz.underlying24 mk54 rfl (by decide) rfl rfl (s := 5) (nn := Cs.length) (m := 1) (cs := flatC Cs) (news := cellsC ⟨2, (e0 : Int), 0, 0, some ⟨gk, 0, none⟩, m2, ck, P2⟩) (qG (by assumption) (qG (by assumption) (qG (by assumption) qS))) rfl (fun w hs => lies_srcV (hs.has (⟨g2, 54, [int .i64 2, int .i64 (e0 : Int), int .i64 0, int .i64 0, slice (some ⟨gk, 0, none⟩) m2 ck], 5⟩) (by simp))) (by intro u hu; exact flatC_one' [⟨2, (e0 : Int), 0, 0, some ⟨gk, 0, none⟩, m2, ck, P2⟩] u (by rw [flatC_one]; exact hu)) (by unfold maxLen; omega) (by omega) (fun v2 He2 w2 hown2 hst3 => ?_)
  iterate 4 refine gx ?_
  exact qK rfl rfl (fun w hs => ⟨v2, He2 ++ (Hd ++ [Ent.mk gk 5 (P2.map (int .u8)) ck]), rfl, ⟨Cs ++ [⟨2, (e0 : Int), 0, 0, some ⟨gk, 0, none⟩, m2, ck, P2⟩], He2, Hd ++ [Ent.mk gk 5 (P2.map (int .u8)) ck], by rw [List.map_append, hCv, litP_some (fun e => by rw [e] at hPl; simp at hPl; omega)]; rfl, ms_add hCm hPl.symm, rfl, by rw [List.length_append, flatC_app, flatC_one]; exact hown2, hD.addL (by omega) hPl hPP (by unfold NumC; dsimp only; omega)⟩, lit_keep (X := [Ent.mk g2 54 ([int .i64 2, int .i64 (e0 : Int), int .i64 0, int .i64 0, slice (some ⟨gk, 0, none⟩) m2 ck]) 5, Ent.mk gk 5 (P2.map (int .u8)) ck, Ent.mk g1 22 ([slice A2 m2 c2]) 1]) (Y := [Ent.mk g2 54 ([int .i64 2, int .i64 (e0 : Int), int .i64 0, int .i64 0, slice (some ⟨gk, 0, none⟩) m2 ck]) 5, Ent.mk g1 22 ([slice A2 m2 c2]) 1]) (hst3.call' hs) (List.Perm.swap _ _ _) (by intro e he; simp only [List.mem_cons, List.not_mem_nil, or_false] at he; rcases he with rfl | rfl <;> (dsimp only; omega))⟩)
/-
 The code of layer 8: Describe.
-/
theorem enters36 : Enters Tryz.prog 36 := ⟨_, Tryz.func36, by kernel_rfl, by kernel_rfl⟩
theorem buildD4 (o n : Int) (D1 D2 : List Int) (h1 : D1.length = 32) (h2 : D2.length = 32) (w : World) : (Instr.build 26 ([(0, int .i64 o), (1, int .i64 n), (2, Value.agg (D1.map (int .u8)).toArray), (3, Value.agg (D2.map (int .u8)).toArray)] : List (Nat × Value)).toArray).run Tryz.prog w = .ok (.agg (dV o n D1 D2 (slice none 0 0)).toArray) w := by
 obtain ⟨a0, a1, a2, a3, a4, a5, a6, a7, a8, a9, a10, a11, a12, a13, a14, a15, a16, a17, a18, a19, a20, a21, a22, a23, a24, a25, a26, a27, a28, a29, a30, a31, rfl⟩ := list32 h1
 obtain ⟨b0, b1, b2, b3, b4, b5, b6, b7, b8, b9, b10, b11, b12, b13, b14, b15, b16, b17, b18, b19, b20, b21, b22, b23, b24, b25, b26, b27, b28, b29, b30, b31, rfl⟩ := list32 h2
 kernel_rfl
theorem desc8_c (B P2 : List Int) (Ao A2 : Option Addr) (mo co m2 c2 : Nat) (A : Option Addr) (m c : Nat) (Cs : List CV) (hmo : mo ≤ co) (hm2 : m2 ≤ c2) (hco : co ≤ 9223372036854775807) (hcm2 : c2 ≤ 9223372036854775807) (hmo3 : mo ≤ 1000000) (hm23 : m2 ≤ 1000000) (hmm : m ≤ 1000000000) (hN : NumsC Cs) (w : World) (hsB : Src w Ao mo .u8 B) (hs2 : Src w A2 m2 .u8 P2) (hC : SrcC w A m Cs) (hD : DatC w Cs) (hf : fewQ Cs) (h1 : 2 < w.heap.size) (hIV : RowI w 0 0 8 .u32 IV) (hK : RowI w 2 0 64 .u32 KT) : Calls Tryz.prog 19 #[.slice Ao mo co, .slice A2 m2 c2, .slice A m c] w fun e w' => ∃ A' c' Fs He, e = .returned (.agg (dV (mo : Int) (m2 : Int) (shaM B) (shaM P2) (slice A' m ((c')))).toArray) ∧ (m ≤ c' ∧ c' ≤ 9223372036854775807) ∧ OwnD w.heap.size A' m Fs He ∧ sameE Fs Cs ∧ St w He w' := by
 refine qM (args := [.slice Ao mo co, .slice A2 m2 c2, .slice A m c]) Tryz.func19 rfl Tryz.ntmps19 (by simp) ?_
 refine qC [0, 1, 2] ?_
 iterate 2 refine gx ?_
 refine TL.alloc (qA rfl) rfl rfl zero26 (cs := [int .i64 0, int .i64 0] ++ ((List.replicate 64 0).map (int .u8) ++ ([slice none 0 0]))) rfl (tot := 67) (by simp) (fun g1 hg1 => ?_)
 iterate 9 refine gx ?_
 refine zK (qA rfl) rfl rfl Tryz.underlying65 size22 zero22 rfl (by decide) (by decide) (cells := #[.slice Ao mo co]) (tot := 1) (by kernel_rfl) (cs := [.slice Ao mo co]) rfl rfl (fun g2 hg2 => ?_)
 refine qL (qA rfl) rfl enters36 rfl rfl (v := .agg ((shaM B).map (int .u8)).toArray) (fun w hs => of_m [B] B (by simp) (some ⟨g2, 0, none⟩) 1 1 w (parts_one (hs.has (⟨g2, 22, [slice Ao mo co], 1⟩) (by simp)) (hsB.at_ hs (fun b hb => (qD (by show g2 ≠ b; omega) (qD (by show g1 ≠ b; omega) qE)))) (by omega)) (by omega) (by omega) (by have h1 := hsB.1; omega) (Nat.lt_of_lt_of_le h1 hs.size) (hIV.keepH hs (by omega) (qD (by show g2 ≠ 0; omega) (qD (by show g1 ≠ 0; omega) qE))) (hK.keepH hs h1 (qD (by show g2 ≠ 2; omega) (qD (by show g1 ≠ 2; omega) qE)))) ?_
 refine gx ?_
 refine zK (qA rfl) rfl rfl Tryz.underlying65 size22 zero22 rfl (by decide) (by decide) (cells := #[.slice A2 m2 c2]) (tot := 1) (by kernel_rfl) (cs := [.slice A2 m2 c2]) rfl rfl (fun g3 hg3 => ?_)
 refine qL (qA rfl) rfl enters36 rfl rfl (v := .agg ((shaM P2).map (int .u8)).toArray) (fun w hs => of_m [P2] P2 (by simp) (some ⟨g3, 0, none⟩) 1 1 w (parts_one (hs.has (⟨g3, 22, [slice A2 m2 c2], 1⟩) (by simp)) (hs2.at_ hs (fun b hb => (qD (by show g3 ≠ b; omega) (qD (by show g2 ≠ b; omega) (qD (by show g1 ≠ b; omega) qE))))) (by omega)) (by omega) (by omega) (by have h1 := hs2.1; omega) (Nat.lt_of_lt_of_le h1 hs.size) (hIV.keepH hs (by omega) (qD (by show g3 ≠ 0; omega) (qD (by show g2 ≠ 0; omega) (qD (by show g1 ≠ 0; omega) qE)))) (hK.keepH hs h1 (qD (by show g3 ≠ 2; omega) (qD (by show g2 ≠ 2; omega) (qD (by show g1 ≠ 2; omega) qE))))) ?_
 refine qB (qA rfl) rfl (qr rfl (vs := [(0, int .i64 (mo : Int)), (1, int .i64 (m2 : Int)), (2, Value.agg ((shaM B).map (int .u8)).toArray), (3, Value.agg ((shaM P2).map (int .u8)).toArray)]) rfl (fun w => buildD4 (mo : Int) (m2 : Int) (shaM B) (shaM P2) (shaM_len B) (shaM_len P2) w) (v := .agg (dV (mo : Int) (m2 : Int) (shaM B) (shaM P2) (slice none 0 0)).toArray)) ?_
 refine gx ?_
 refine qg (ι := (Option Addr × Nat) × (List CV × List Ent)) (V := fun y => .agg (dV (mo : Int) (m2 : Int) (shaM B) (shaM P2) (slice y.1.1 m y.1.2)).toArray) (R := fun y => (m ≤ y.1.2 ∧ y.1.2 ≤ 9223372036854775807) ∧ OwnD w.heap.size y.1.1 m y.2.1 y.2.2 ∧ sameE y.2.1 Cs) (H' := fun y => [⟨g3, 22, [slice A2 m2 c2], 1⟩, ⟨g2, 22, [slice Ao mo co], 1⟩, ⟨g1, 26, [int .i64 0, int .i64 0] ++ ((List.replicate 64 0).map (int .u8) ++ ([slice none 0 0])), 67⟩] ++ y.2.2) (qA rfl) rfl enters38 rfl rfl (fun w hs => (dwith_c (mo : Int) (m2 : Int) (shaM B) (shaM P2) (shaM_len B) (shaM_len P2) none 0 0 A m c Cs hmm hN w (hC.at_ hs (fun b hb => (qD (by show g3 ≠ b; omega) (qD (by show g2 ≠ b; omega) (qD (by show g1 ≠ b; omega) qE))))) (hD.at_ hs (fun b hb => (qD (by show g3 ≠ b; omega) (qD (by show g2 ≠ b; omega) (qD (by show g1 ≠ b; omega) qE))))) hf).mono fun e w' ⟨A', c', Fs, He, he, hc, ho, hsm, hw⟩ => ⟨((A', c'), (Fs, He)), he, ⟨hc, ho.mono hs.size, hsm⟩, st_call hs hw ho.1⟩) (fun y hR => ?_)
 obtain ⟨⟨As, cs⟩, Fs, Hw⟩ := y
 obtain ⟨hcs, hos, hsm⟩ := hR
 dsimp only at hcs hos hsm ⊢
 have hFw : Fresh w Hw := hos.1
 refine zI (qA rfl) rfl rfl size26 rfl (vs := dV (mo : Int) (m2 : Int) (shaM B) (shaM P2) (slice As m cs)) rfl (by simp [(shaM_len B), (shaM_len P2)]) (zB (by simp [Value.oneCell']) (zB qw (zB qw (by simp [Value.oneCell'])))) (i := 2) (ent := ⟨g1, 26, [int .i64 0, int .i64 0] ++ ((List.replicate 64 0).map (int .u8) ++ ([slice none 0 0])), 67⟩) rfl rfl (by simp []) (H' := [⟨g3, 22, [slice A2 m2 c2], 1⟩, ⟨g2, 22, [slice Ao mo co], 1⟩, ⟨g1, 26, dV (mo : Int) (m2 : Int) (shaM B) (shaM P2) (slice As m cs), 67⟩] ++ Hw) rfl ?_
 iterate 3 refine gx ?_
 exact ql rfl agg26 size26 rfl (vs := dV (mo : Int) (m2 : Int) (shaM B) (shaM P2) (slice As m cs)) (by simp [(shaM_len B), (shaM_len P2)]) (qX (i := 2) (ent := ⟨g1, 26, dV (mo : Int) (m2 : Int) (shaM B) (shaM P2) (slice As m cs), 67⟩) rfl rfl rfl) (fun w hs => ⟨As, cs, Fs, Hw, rfl, hcs, hos, hsm, (((hs.erase (i := 0) rfl (by assumption)).erase (i := 0) rfl (by assumption)).erase (i := 0) rfl (by assumption))⟩)
/-
 The code of layer 8: Make.
-/
theorem agg68 : (isAgg 68).run Tryz.prog = fun w => .ok false w := isAgg_no Tryz.underlying68 rfl
theorem enters19 : Enters Tryz.prog 19 := ⟨_, Tryz.func19, by kernel_rfl, by kernel_rfl⟩
theorem enters40 : Enters Tryz.prog 40 := ⟨_, Tryz.func40, by kernel_rfl, by kernel_rfl⟩
theorem enters42 : Enters Tryz.prog 42 := ⟨_, Tryz.func42, by kernel_rfl, by kernel_rfl⟩
theorem enters43 : Enters Tryz.prog 43 := ⟨_, Tryz.func43, by kernel_rfl, by kernel_rfl⟩
theorem enters44 : Enters Tryz.prog 44 := ⟨_, Tryz.func44, by kernel_rfl, by kernel_rfl⟩
theorem enters73 : Enters Tryz.prog 73 := ⟨_, Tryz.func73, by kernel_rfl, by kernel_rfl⟩
theorem size68 : (Tryz.prog.info? 68).map (·.size) = some 1 := by kernel_rfl
theorem zero24 : (Tryz.prog.info? 24).bind (·.zero) = some (.slice none 0 0) := by kernel_rfl
theorem zero68 : (Tryz.prog.info? 68).bind (·.zero) = some (.nilFunc) := by kernel_rfl
instance : AgN Tryz.prog 68 := ⟨agg68⟩
instance : Zer Tryz.prog 24 [slice none 0 0] := ⟨⟨_, zero24, rfl⟩⟩
instance : Zer Tryz.prog 68 [Value.nilFunc] := ⟨⟨_, zero68, rfl⟩⟩
structure MkS where
 e : Nat
 v : Value
 ps : List PC
 He : List Ent
theorem len_flat_mem {l : List Int} : ∀ {L : List (List Int)}, l ∈ L → l.length ≤ L.flatten.length
 | [], h => by cases h
 | a :: L, h => by
  rw [List.flatten_cons, List.length_append]
  rcases List.mem_cons.1 h with rfl | h
  ·omega
  ·have := len_flat_mem h; omega
theorem ne_app3 {H He : List Ent} {a b c : Nat} (h : ∀ e ∈ H, e.g ≠ a ∧ e.g ≠ b ∧ e.g ≠ c) (h2 : ∀ e ∈ He, e.g ≠ a ∧ e.g ≠ b ∧ e.g ≠ c) : ∀ e ∈ H ++ He, e.g ≠ a ∧ e.g ≠ b ∧ e.g ≠ c := fun e he => by
 rcases List.mem_append.1 he with he | he
 ·exact h e he
 ·exact h2 e he
theorem cmds_few {old new : List Int} {k : Int} {Cs : List CV} (hv : Cs.map valC = cmdsL old new k) (hm : ∀ x ∈ Cs, x.m = x.B.length) (hn : new.length ≤ 300) (hl : Cs.length ≤ 5000) : fewQ Cs := by
 refine ⟨fun i x hx => ?_, hl⟩
 have hmem := List.mem_of_getElem? hx
 obtain ⟨h1, _, _, h4⟩ := cmdsL_leads old new k
 have h5 : valC x ∈ cmdsL old new k := by rw [← hv]; exact List.mem_map_of_mem hmem
 rw [hm x hmem]
 rcases h1 _ h5 with h | h
 ·have : x.B = [] := h.2.2.2.2
  rw [this]; simp
 ·have h6 : segP old (valC x) = x.B := by unfold segP; rw [if_neg (by rw [h.1]; decide)]; rfl
  have h7 : (segP old (valC x)).length ≤ (((cmdsL old new k).map (segP old)).flatten).length := by
   exact len_flat_mem (List.mem_map_of_mem h5)
  rw [h4, List.take_length, h6] at h7
  omega
theorem seg_eq {P2 : List Int} {e i : Nat} : (P2.take i).drop e = (P2.drop e).take (i - e) := by rw [List.drop_take]
theorem roundx_keep {B w : World} {Hc Hd Hs : List Ent} {d : Ent} (h : St B (Hc ++ (([d] ++ Hd) ++ Hs)) w) (hd : B.heap.size ≤ d.g) : St B (Hc ++ (Hs ++ Hd)) w := by
 have hp : (Hc ++ (([d] ++ Hd) ++ Hs)).Perm (d :: (Hc ++ (Hs ++ Hd))) := by
  have e1 : Hc ++ (([d] ++ Hd) ++ Hs) = Hc ++ d :: (Hd ++ Hs) := by simp
  rw [e1]
  refine List.perm_middle.trans (List.Perm.cons d ?_)
  exact List.Perm.append_left Hc List.perm_append_comm
 exact (h.perm hp).drop hd
theorem mk_m {Fs Cx : List CV} (h : sameE Fs Cx) (hm : ∀ x ∈ Cx, x.m = x.B.length) : ∀ x ∈ Fs, x.m = x.B.length := fun x hx => by
 have h1 : keyE x ∈ Cx.map keyE := by rw [← h]; exact List.mem_map_of_mem hx
 obtain ⟨y, hy, he⟩ := List.mem_map.1 h1
 have h2 := hm y hy
 have h3 : y.m = x.m := congrArg Prod.snd he
 have h4 : y.B = x.B := congrArg (fun z => z.1.2.2.2.2) he
 rw [← h3, ← h4]; exact h2
theorem mk_drop {w w2 : World} {X Ha Hw : List Ent} (h : St w (X ++ (([] ++ Ha) ++ Hw)) w2) (hX : ∀ e ∈ X, w.heap.size ≤ e.g) (hA : ∀ e ∈ Ha, w.heap.size ≤ e.g) : St w Hw w2 := by
 refine zJ Ha (zJ X ?_ hX) hA
 rw [List.nil_append] at h
 exact h
theorem blk_src {w : World} {b o m s i : Nat} {P2 : List Int} (h : Src w (some ⟨b, o, none⟩) m .u8 P2) (hi : i + s ≤ m) : Src w (some ⟨b, o + i, none⟩) s .u8 (blkI P2 s i) := h.cut (l := i) (n := s) (by omega)
theorem seg_src {w : World} {b o m e i : Nat} {P2 : List Int} (h : Src w (some ⟨b, o, none⟩) m .u8 P2) (he : e ≤ i) (hi : i ≤ m) : Src w (some ⟨b, o + e, none⟩) (i - e) .u8 ((P2.take i).drop e) := by
 rw [seg_eq]
 exact h.cut (l := e) (n := i - e) (by omega)
theorem Bytes.blk {P2 : List Int} {s i : Nat} (h : Bytes P2) : Bytes (blkI P2 s i) := (h.drop' i).take' s
theorem cntH_le (n : Nat) (k : Int) : cntH n k ≤ n := by
 unfold cntH; split <;> omega
set_option maxHeartbeats 4000000 in
theorem make8_c (B P2 : List Int) (Ao A2 : Option Addr) (mo co m2 c2 : Nat) (k : Int) (hmo : mo ≤ co) (hm2 : m2 ≤ c2) (hco : co ≤ 9223372036854775807) (hcm2 : c2 ≤ 9223372036854775807) (hmo3 : mo ≤ 300) (hm23 : m2 ≤ 300) (hk : -9223372036854775808 ≤ k ∧ k ≤ 9223372036854775807) (hBB : Bytes B) (hPP : Bytes P2) (w : World) (hsB : Src w Ao mo .u8 B) (hs2 : Src w A2 m2 .u8 P2) (hMX : MaxC w) (h1 : 2 < w.heap.size) (hIV : RowI w 0 0 8 .u32 IV) (hK : RowI w 2 0 64 .u32 KT) : Calls Tryz.prog 22 #[.slice Ao mo co, .slice A2 m2 c2, .int .i64 k] w fun e w' => ∃ A' c' nL Fs He, e = .returned (.agg (dV (mo : Int) (m2 : Int) (shaM B) (shaM P2) (slice A' nL ((c')))).toArray) ∧ (nL ≤ c' ∧ c' ≤ 9223372036854775807) ∧ OwnD w.heap.size A' nL Fs He ∧ (Fs.map valC = cmdsL B P2 k ∧ ∀ x ∈ Fs, x.m = x.B.length) ∧ Fs.length = nL ∧ St w He w' := by
 refine calls_fromM (args := [.slice Ao mo co, .slice A2 m2 c2, .int .i64 k]) Tryz.func22 rfl Tryz.ntmps22 (by simp) ?_
 refine qC [0, 1, 2] ?_
 iterate 2 refine gx ?_
 refine TL.bx1 (fun g1 hg1 => ?_)
 refine TL.bx1 (fun g2 hg2 => ?_)
 refine TL.bx1 (fun g3 hg3 => ?_)
 refine TL.alloc (qA rfl) rfl rfl zero26 (cs := [int .i64 0, int .i64 0] ++ ((List.replicate 64 0).map (int .u8) ++ ([slice none 0 0]))) rfl (tot := 67) (by simp) (fun g4 hg4 => ?_)
 iterate 4 refine gx ?_
 refine qZ (fun g5 hg5 => ?_)
 iterate 4 refine gx ?_
 refine qZ (fun g6 hg6 => ?_)
 refine qz (qA rfl) rfl rfl size3 rfl rfl rfl (i := 0) rfl rfl (by simp [] <;> omega) (cs' := [int .i64 0]) (rfl) (H' := [⟨g6, 3, [int .i64 0], 1⟩, ⟨g5, 24, [slice none 0 0], 1⟩, ⟨g4, 26, [int .i64 0, int .i64 0] ++ ((List.replicate 64 0).map (int .u8) ++ ([slice none 0 0])), 67⟩, ⟨g3, 3, [int .i64 k], 1⟩, ⟨g2, 22, [slice A2 m2 c2], 1⟩, ⟨g1, 22, [slice Ao mo co], 1⟩]) rfl ?_
 iterate 2 refine gx ?_
 refine qC [3, 4, 5, 6, 7, 8] ?_
 iterate 4 refine gx ?_
 refine TL.callB (ι := Nat × Nat × Nat) (V := fun y => .func (.func 73) #[] #[.pointer (some ⟨y.1, 0, none⟩), .pointer (some ⟨y.2.1, 0, none⟩)]) (R := fun y w1 => (∀ e ∈ ([⟨g6, 3, [int .i64 0], 1⟩, ⟨g5, 24, [slice none 0 0], 1⟩, ⟨g4, 26, [int .i64 0, int .i64 0] ++ ((List.replicate 64 0).map (int .u8) ++ ([slice none 0 0])), 67⟩, ⟨g3, 3, [int .i64 k], 1⟩, ⟨g2, 22, [slice A2 m2 c2], 1⟩, ⟨g1, 22, [slice Ao mo co], 1⟩] : List Ent), e.g ≠ y.1 ∧ e.g ≠ y.2.1 ∧ e.g ≠ y.2.2) ∧ FindC w1 y.1 y.2.1 y.2.2 Ao mo co B k) (qA rfl) rfl enters40 rfl rfl (fun w1 hs => (finder_c Ao mo co k B hBB (by omega) hmo hco w1 (hsB.at_ hs (fun b hb => (qD (by show g6 ≠ b; omega) (qD (by show g5 ≠ b; omega) (qD (by show g4 ≠ b; omega) (qD (by show g3 ≠ b; omega) (qD (by show g2 ≠ b; omega) (qD (by show g1 ≠ b; omega) qE))))))))).mono fun e w' ⟨y, he, hR, hw, hF⟩ => ⟨y, he, ⟨fun e he => by have h9 := (hs.has e he).lt; refine ⟨?_, ?_, ?_⟩ <;> omega, hF⟩, hs.call' hw⟩) (fun y w1 hR hs1 => ?_)
 obtain ⟨gm, gf, mb⟩ := y
 obtain ⟨hne, hF1⟩ := hR
 dsimp only at hne hF1 ⊢
 have ng6 := hne _ List.mem_cons_self
 dsimp only at ng6
 have lg6 := (hs1.has _ List.mem_cons_self).lt
 dsimp only at lg6
 have ng5 := hne _ (List.mem_cons_of_mem _ List.mem_cons_self)
 dsimp only at ng5
 have lg5 := (hs1.has _ (List.mem_cons_of_mem _ List.mem_cons_self)).lt
 dsimp only at lg5
 have ng4 := hne _ (List.mem_cons_of_mem _ (List.mem_cons_of_mem _ List.mem_cons_self))
 dsimp only at ng4
 have lg4 := (hs1.has _ (List.mem_cons_of_mem _ (List.mem_cons_of_mem _ List.mem_cons_self))).lt
 dsimp only at lg4
 have ng3 := hne _ (List.mem_cons_of_mem _ (List.mem_cons_of_mem _ (List.mem_cons_of_mem _ List.mem_cons_self)))
 dsimp only at ng3
 have lg3 := (hs1.has _ (List.mem_cons_of_mem _ (List.mem_cons_of_mem _ (List.mem_cons_of_mem _ List.mem_cons_self)))).lt
 dsimp only at lg3
 have ng2 := hne _ (List.mem_cons_of_mem _ (List.mem_cons_of_mem _ (List.mem_cons_of_mem _ (List.mem_cons_of_mem _ List.mem_cons_self))))
 dsimp only at ng2
 have lg2 := (hs1.has _ (List.mem_cons_of_mem _ (List.mem_cons_of_mem _ (List.mem_cons_of_mem _ (List.mem_cons_of_mem _ List.mem_cons_self))))).lt
 dsimp only at lg2
 have ng1 := hne _ (List.mem_cons_of_mem _ (List.mem_cons_of_mem _ (List.mem_cons_of_mem _ (List.mem_cons_of_mem _ (List.mem_cons_of_mem _ List.mem_cons_self)))))
 dsimp only at ng1
 have lg1 := (hs1.has _ (List.mem_cons_of_mem _ (List.mem_cons_of_mem _ (List.mem_cons_of_mem _ (List.mem_cons_of_mem _ (List.mem_cons_of_mem _ List.mem_cons_self)))))).lt
 dsimp only at lg1
 have hwB : St w [] w1 := zJ [⟨g6, 3, [int .i64 0], 1⟩, ⟨g5, 24, [slice none 0 0], 1⟩, ⟨g4, 26, [int .i64 0, int .i64 0] ++ ((List.replicate 64 0).map (int .u8) ++ ([slice none 0 0])), 67⟩, ⟨g3, 3, [int .i64 k], 1⟩, ⟨g2, 22, [slice A2 m2 c2], 1⟩, ⟨g1, 22, [slice Ao mo co], 1⟩] (by rw [List.append_nil]; exact hs1) (qG (by assumption) (qG (by assumption) (qG (by assumption) (qG (by assumption) (qG (by assumption) (qG (by assumption) qS))))))
 have hwz := hwB.size
 have hlm := hF1.lm
 have hlf := hF1.lf
 have hlb := hF1.mp.lt
 refine qZ (fun g7 hg7 => ?_)
 refine qz (qA rfl) rfl rfl size68 rfl rfl rfl (i := 0) rfl rfl (by simp [] <;> omega) (cs' := [Value.func (.func 73) #[] #[.pointer (some ⟨gm, 0, none⟩), .pointer (some ⟨gf, 0, none⟩)]]) (rfl) (H' := [⟨g7, 68, [Value.func (.func 73) #[] #[.pointer (some ⟨gm, 0, none⟩), .pointer (some ⟨gf, 0, none⟩)]], 1⟩, ⟨g6, 3, [int .i64 0], 1⟩, ⟨g5, 24, [slice none 0 0], 1⟩, ⟨g4, 26, [int .i64 0, int .i64 0] ++ ((List.replicate 64 0).map (int .u8) ++ ([slice none 0 0])), 67⟩, ⟨g3, 3, [int .i64 k], 1⟩, ⟨g2, 22, [slice A2 m2 c2], 1⟩, ⟨g1, 22, [slice Ao mo co], 1⟩]) rfl ?_
 iterate 2 refine gx ?_
 refine qC [3, 4, 5, 6, 7, 8, 9] ?_
 iterate 5 refine gx ?_
 refine qg (ι := Nat × Nat) (V := fun y => .func (.func 75) #[] #[.pointer (some ⟨y.1, 0, none⟩), .pointer (some ⟨y.2, 0, none⟩)]) (R := fun y => w1.heap.size ≤ y.1 ∧ w1.heap.size ≤ y.2) (H' := fun y => [⟨g7, 68, [Value.func (.func 73) #[] #[.pointer (some ⟨gm, 0, none⟩), .pointer (some ⟨gf, 0, none⟩)]], 1⟩, ⟨g6, 3, [int .i64 0], 1⟩, ⟨g5, 24, [slice none 0 0], 1⟩, ⟨g4, 26, [int .i64 0, int .i64 0] ++ ((List.replicate 64 0).map (int .u8) ++ ([slice none 0 0])), 67⟩, ⟨g3, 3, [int .i64 k], 1⟩, ⟨g2, 22, [slice A2 m2 c2], 1⟩, ⟨g1, 22, [slice Ao mo co], 1⟩, ⟨y.1, 3, [int .i64 k], 1⟩, ⟨y.2, 22, [slice A2 m2 c2], 1⟩]) (qA rfl) rfl enters41 rfl rfl (fun w hs => (hashes_c A2 m2 c2 k w).mono fun e w' ⟨y, he, hR, hw⟩ => ⟨y, he, ⟨Nat.le_trans hs.size hR.1, Nat.le_trans hs.size hR.2⟩, st_call hs hw (fun e he => by rcases List.mem_cons.1 he with rfl | he; exact hR.1; rw [List.mem_singleton.1 he]; exact hR.2)⟩) (fun y hR => ?_)
 obtain ⟨gs, gb⟩ := y
 obtain ⟨hgs, hgb⟩ := hR
 dsimp only at hgs hgb ⊢
 iterate 2 refine gx ?_
 refine qC [3, 4, 5, 6, 7, 8, 9, 19] ?_
 refine gx ?_
 have hwz0 := hwB.size
 have ng7 : g7 ≠ gm ∧ g7 ≠ gf ∧ g7 ≠ mb := ⟨by omega, by omega, by omega⟩
 refine TC.rangeX (ι := MkS) (V1 := fun i => .int .i64 (i : Int)) (V2 := fun i => .int .u64 (hshI (blkI P2 k.toNat i))) (N := cntH m2 k) (c := 0) (Cap := capA gs gb A2 m2) rfl rfl rfl rfl rfl enters75 (fun w hs => hash_itC gs gb A2 m2 c2 k P2 hPP (by omega) hm2 hcm2 w ((hs.has (⟨gs, 3, [int .i64 k], 1⟩) (List.mem_of_getElem? (i := 7) rfl)).cell rfl) ((hs.has (⟨gb, 22, [slice A2 m2 c2], 1⟩) (List.mem_of_getElem? (i := 8) rfl)).cell rfl) (hs.has (⟨gs, 3, [int .i64 k], 1⟩) (List.mem_of_getElem? (i := 7) rfl)).lt (hs.has (⟨gb, 22, [slice A2 m2 c2], 1⟩) (List.mem_of_getElem? (i := 8) rfl)).lt (hs2.at_ (hwB.rebase hs (qG (by first | assumption | (dsimp only; omega)) (qG (by first | assumption | (dsimp only; omega)) (qG (by first | assumption | (dsimp only; omega)) (qG (by first | assumption | (dsimp only; omega)) (qG (by first | assumption | (dsimp only; omega)) (qG (by first | assumption | (dsimp only; omega)) (qG (by first | assumption | (dsimp only; omega)) (qG (by first | assumption | (dsimp only; omega)) (qG (by first | assumption | (dsimp only; omega)) qS)))))))))) (fun b hb => (qD (by show g7 ≠ b; omega) (qD (by show g6 ≠ b; omega) (qD (by show g5 ≠ b; omega) (qD (by show g4 ≠ b; omega) (qD (by show g3 ≠ b; omega) (qD (by show g2 ≠ b; omega) (qD (by show g1 ≠ b; omega) (qD (by show gs ≠ b; omega) (qD (by show gb ≠ b; omega) qE)))))))))))) (fun N0 i x => GI B P2 k i x.e x.ps ∧ OwnL N0 54 x.v x.ps x.He ∧ x.ps.length ≤ 2 * i) (fun x => [⟨g7, 68, [Value.func (.func 73) #[] #[.pointer (some ⟨gm, 0, none⟩), .pointer (some ⟨gf, 0, none⟩)]], 1⟩, ⟨g6, 3, [int .i64 (x.e : Int)], 1⟩, ⟨g5, 24, [x.v], 1⟩, ⟨g4, 26, [int .i64 0, int .i64 0] ++ ((List.replicate 64 0).map (int .u8) ++ ([slice none 0 0])), 67⟩, ⟨g3, 3, [int .i64 k], 1⟩, ⟨g2, 22, [slice A2 m2 c2], 1⟩, ⟨g1, 22, [slice Ao mo co], 1⟩]) (fun x => x.He) [g7, g6, g5, g4, g3, g2, g1] (fun i => [(3, .pointer (some ⟨g1, 0, none⟩)), (4, .pointer (some ⟨g2, 0, none⟩)), (5, .pointer (some ⟨g3, 0, none⟩)), (7, .pointer (some ⟨g5, 0, none⟩)), (8, .pointer (some ⟨g6, 0, none⟩)), (9, .pointer (some ⟨g7, 0, none⟩)), (10, .int .i64 (i : Int)), (11, .int .u64 (hshI (blkI P2 k.toNat i)))]) (⟨0, .slice none 0 0, [], []⟩ : MkS) (fun _ => rfl) (fun N0 N1 i x hN h => ⟨h.1, h.2.1.mono hN, h.2.2⟩) (fun N0 _ => ⟨GI.zero _ _ _, OwnL.nil _ _, Nat.le_refl _⟩) (fun w h => ((h.erase (i := 8) rfl (by assumption)).erase (i := 7) rfl (by assumption))) rfl (fun w hs q hk => by rcases hk with h | h | ⟨hm0, ad, hA, h⟩; (exact ⟨by rw [h]; exact (hs.has (⟨gs, 3, [int .i64 k], 1⟩) (List.mem_of_getElem? (i := 7) rfl)).lt, by rw [h]; exact (fun hm => by simp only [List.mem_cons, List.not_mem_nil, or_false] at hm; rcases hm with hm | hm | hm | hm | hm | hm | hm <;> first | exact absurd hm (pairwise_ne hs.apart (i := 7) (j := 0) rfl rfl (by decide)) | exact absurd hm (pairwise_ne hs.apart (i := 7) (j := 1) rfl rfl (by decide)) | exact absurd hm (pairwise_ne hs.apart (i := 7) (j := 2) rfl rfl (by decide)) | exact absurd hm (pairwise_ne hs.apart (i := 7) (j := 3) rfl rfl (by decide)) | exact absurd hm (pairwise_ne hs.apart (i := 7) (j := 4) rfl rfl (by decide)) | exact absurd hm (pairwise_ne hs.apart (i := 7) (j := 5) rfl rfl (by decide)) | exact absurd hm (pairwise_ne hs.apart (i := 7) (j := 6) rfl rfl (by decide)))⟩); (exact ⟨by rw [h]; exact (hs.has (⟨gb, 22, [slice A2 m2 c2], 1⟩) (List.mem_of_getElem? (i := 8) rfl)).lt, by rw [h]; exact (fun hm => by simp only [List.mem_cons, List.not_mem_nil, or_false] at hm; rcases hm with hm | hm | hm | hm | hm | hm | hm <;> first | exact absurd hm (pairwise_ne hs.apart (i := 8) (j := 0) rfl rfl (by decide)) | exact absurd hm (pairwise_ne hs.apart (i := 8) (j := 1) rfl rfl (by decide)) | exact absurd hm (pairwise_ne hs.apart (i := 8) (j := 2) rfl rfl (by decide)) | exact absurd hm (pairwise_ne hs.apart (i := 8) (j := 3) rfl rfl (by decide)) | exact absurd hm (pairwise_ne hs.apart (i := 8) (j := 4) rfl rfl (by decide)) | exact absurd hm (pairwise_ne hs.apart (i := 8) (j := 5) rfl rfl (by decide)) | exact absurd hm (pairwise_ne hs.apart (i := 8) (j := 6) rfl rfl (by decide)))⟩); (have h2 := hs2; rw [hA] at h2; have h3 := h2.blk hm0; exact ⟨by rw [h]; have := hs.size; omega, by rw [h]; simp only [List.mem_cons, List.not_mem_nil, or_false]; omega⟩)) (fun l i v hiN => ?_) (fun l i x B0 hiN hwB0 hC hF hB => ?_) (fun lo x B0 hlo hwB0 hC hF hB hD hgl => ?_)
 ·iterate 5 refine gx ?_
  refine qC [3, 4, 5, 6, 7, 8, 9, 10, 21] ?_
  iterate 3 refine gx ?_
  exact TE.asg (qJ (i := 3) rfl (qJ (i := 4) rfl (qJ (i := 5) rfl (qJ (i := 7) rfl (qJ (i := 8) rfl (qJ (i := 9) rfl (qF (i := 10) rfl (by first | omega | rfl) (qF (i := 11) rfl (by first | rfl | omega) (qO)))))))))
 ·obtain ⟨e0, v, ps, He⟩ := x
  obtain ⟨hGI, hL, hpl⟩ := hC
  dsimp only at hGI hL hpl hF hB ⊢
  have hwB0' : St w [⟨g7, 68, [Value.func (.func 73) #[] #[.pointer (some ⟨gm, 0, none⟩), .pointer (some ⟨gf, 0, none⟩)]], 1⟩, ⟨g6, 3, [int .i64 (e0 : Int)], 1⟩, ⟨g5, 24, [v], 1⟩, ⟨g4, 26, [int .i64 0, int .i64 0] ++ ((List.replicate 64 0).map (int .u8) ++ ([slice none 0 0])), 67⟩, ⟨g3, 3, [int .i64 k], 1⟩, ⟨g2, 22, [slice A2 m2 c2], 1⟩, ⟨g1, 22, [slice Ao mo co], 1⟩] B0 := hwB.rebase hB (qG (by first | assumption | (dsimp only; omega)) (qG (by first | assumption | (dsimp only; omega)) (qG (by first | assumption | (dsimp only; omega)) (qG (by first | assumption | (dsimp only; omega)) (qG (by first | assumption | (dsimp only; omega)) (qG (by first | assumption | (dsimp only; omega)) (qG (by first | assumption | (dsimp only; omega)) qS)))))))
  have hfrC : ∀ e ∈ ([⟨g7, 68, [Value.func (.func 73) #[] #[.pointer (some ⟨gm, 0, none⟩), .pointer (some ⟨gf, 0, none⟩)]], 1⟩, ⟨g6, 3, [int .i64 (e0 : Int)], 1⟩, ⟨g5, 24, [v], 1⟩, ⟨g4, 26, [int .i64 0, int .i64 0] ++ ((List.replicate 64 0).map (int .u8) ++ ([slice none 0 0])), 67⟩, ⟨g3, 3, [int .i64 k], 1⟩, ⟨g2, 22, [slice A2 m2 c2], 1⟩, ⟨g1, 22, [slice Ao mo co], 1⟩] : List Ent), w.heap.size ≤ e.g := (qG (by first | assumption | (dsimp only; omega)) (qG (by first | assumption | (dsimp only; omega)) (qG (by first | assumption | (dsimp only; omega)) (qG (by first | assumption | (dsimp only; omega)) (qG (by first | assumption | (dsimp only; omega)) (qG (by first | assumption | (dsimp only; omega)) (qG (by first | assumption | (dsimp only; omega)) qS)))))))
  have hwB : St w [] B0 := zJ [⟨g7, 68, [Value.func (.func 73) #[] #[.pointer (some ⟨gm, 0, none⟩), .pointer (some ⟨gf, 0, none⟩)]], 1⟩, ⟨g6, 3, [int .i64 (e0 : Int)], 1⟩, ⟨g5, 24, [v], 1⟩, ⟨g4, 26, [int .i64 0, int .i64 0] ++ ((List.replicate 64 0).map (int .u8) ++ ([slice none 0 0])), 67⟩, ⟨g3, 3, [int .i64 k], 1⟩, ⟨g2, 22, [slice A2 m2 c2], 1⟩, ⟨g1, 22, [slice Ao mo co], 1⟩] (by rw [List.append_nil]; exact hwB0') hfrC
  have hwz := hwB.size
  have hP2l := hs2.1
  have hBl := hsB.1
  have hFb : FindC B0 gm gf mb Ao mo co B k := hF1.at_ hB (List.forall_mem_cons.2 ⟨ng7, (List.forall_mem_cons.2 ⟨ng6, (List.forall_mem_cons.2 ⟨ng5, (List.forall_mem_cons.2 ⟨ng4, (List.forall_mem_cons.2 ⟨ng3, (List.forall_mem_cons.2 ⟨ng2, (List.forall_mem_cons.2 ⟨ng1, (fun e he => absurd he List.not_mem_nil)⟩)⟩)⟩)⟩)⟩)⟩)⟩)
  have hMb : MaxC B0 := hMX.at_ hwB (by simp)
  have hlm := hFb.lm
  have hlf := hFb.lf
  have hlb := hFb.mp.lt
  have hlM := hMb.1
  have hMw := hMX.1
  have hcnt := cntH_lt hiN
  obtain ⟨s, rfl⟩ : ∃ s : Nat, k = s := ⟨k.toNat, by omega⟩
  obtain ⟨b2, o2, hA2, hb2, hr2⟩ := hs2.2.resolve_left (by omega)
  subst hA2
  simp only [Int.toNat_natCast]
  have hle := hGI.le
  iterate 9 refine gx ?_
  refine qC [3, 4, 5, 7, 8, 9, 10, 11, 24] ?_
  refine qP rfl (fun hq0 => ?_) (fun hq0 => ?_)
  ·iterate 3 refine gx ?_
   exact TE.roundX (⟨e0, v, ps, He⟩ : MkS) ⟨hGI.skip (by omega), hL, by show ps.length ≤ 2 * (i + 1); omega⟩ hF (fun w h => h)
  ·iterate 2 refine gx ?_
   refine qC [3, 4, 5, 7, 8, 9, 10, 11] ?_
   refine gx ?_
   obtain ⟨rq, hrq⟩ : ∃ rq : Int, rq = occI B (blkI P2 s i) (s : Int) := ⟨_, rfl⟩
   have hoc := occ_cases B (blkI P2 s i) (s : Int)
   rw [← hrq, match_blk (by omega) (by omega)] at hoc
   refine qt (hok := ⟨fun ⟨_, _, h⟩ => (show False from h), by kernel_rfl⟩) (by kernel_rfl) [1, 1, 0, 0, 1, 0, 0, 0, 1, 0] rfl (by kernel_rfl) ?_
   iterate 5 refine gx ?_
   refine qH (qA rfl) rfl (fun _ => qQ rfl rfl rfl (r := ((i : Int) + (s : Int))) (w64 (by omega) (by omega))) ?_
   refine qH (qA rfl) rfl (fun _ => zH rfl Tryz.underlying22 size5 rfl (bnd.at_ (l := i) rfl (by omega)) (bnd.at_ (l := (i + s)) rfl (by omega)) (by omega) (by omega) (A' := some ⟨b2, (o2 + i), none⟩) (cut_is (by omega) (by omega)) (ln := s) (cp := (c2 - i)) (by omega) (by omega)) ?_
   refine gx ?_
   refine TM.call0F (qA rfl) rfl enters73 rfl rfl rfl (v := .int .i64 rq) (fun w hs => (ffind_c gm gf mb Ao mo co B s (some ⟨b2, (o2 + i), none⟩) s (c2 - i) (blkI P2 s i) (by omega) rfl hmo hco (by omega) (by omega) hBB (hPP.blk) w (hFb.at_ hs (ne_app3 (List.forall_mem_cons.2 ⟨ng7, (List.forall_mem_cons.2 ⟨ng6, (List.forall_mem_cons.2 ⟨ng5, (List.forall_mem_cons.2 ⟨ng4, (List.forall_mem_cons.2 ⟨ng3, (List.forall_mem_cons.2 ⟨ng2, (List.forall_mem_cons.2 ⟨ng1, (fun e he => absurd he List.not_mem_nil)⟩)⟩)⟩)⟩)⟩)⟩)⟩) (fun e he => by have h9 := hF e he; refine ⟨?_, ?_, ?_⟩ <;> omega))) (hsB.at_ (hwB.rebase hs (qp (qG (by first | assumption | (dsimp only; omega)) (qG (by first | assumption | (dsimp only; omega)) (qG (by first | assumption | (dsimp only; omega)) (qG (by first | assumption | (dsimp only; omega)) (qG (by first | assumption | (dsimp only; omega)) (qG (by first | assumption | (dsimp only; omega)) (qG (by first | assumption | (dsimp only; omega)) qS))))))) (fun e he => Nat.le_trans hwz (hF e he)))) (fun b hb => (qU (qD (by show g7 ≠ b; omega) (qD (by show g6 ≠ b; omega) (qD (by show g5 ≠ b; omega) (qD (by show g4 ≠ b; omega) (qD (by show g3 ≠ b; omega) (qD (by show g2 ≠ b; omega) (qD (by show g1 ≠ b; omega) qE))))))) (Fresh.ne hF (Nat.lt_of_lt_of_le hb hwz))))) (blk_src (((hs2.at_ (hwB.rebase hs (qp (qG (by first | assumption | (dsimp only; omega)) (qG (by first | assumption | (dsimp only; omega)) (qG (by first | assumption | (dsimp only; omega)) (qG (by first | assumption | (dsimp only; omega)) (qG (by first | assumption | (dsimp only; omega)) (qG (by first | assumption | (dsimp only; omega)) (qG (by first | assumption | (dsimp only; omega)) qS))))))) (fun e he => Nat.le_trans hwz (hF e he)))) (fun b hb => (qU (qD (by show g7 ≠ b; omega) (qD (by show g6 ≠ b; omega) (qD (by show g5 ≠ b; omega) (qD (by show g4 ≠ b; omega) (qD (by show g3 ≠ b; omega) (qD (by show g2 ≠ b; omega) (qD (by show g1 ≠ b; omega) qE))))))) (Fresh.ne hF (Nat.lt_of_lt_of_le hb hwz)))))) : Src _ (some ⟨b2, o2, none⟩) m2 .u8 P2) (s := s) (i := i) (by omega)) (hMb.at_ hs (qU (qD (by show g7 ≠ 1; omega) (qD (by show g6 ≠ 1; omega) (qD (by show g5 ≠ 1; omega) (qD (by show g4 ≠ 1; omega) (qD (by show g3 ≠ 1; omega) (qD (by show g2 ≠ 1; omega) (qD (by show g1 ≠ 1; omega) qE))))))) (hF.ne hlM)))).mono fun e w' h => by rw [← hrq] at h; exact h) ?_
   iterate 3 refine gx ?_
   refine qC [3, 4, 7, 8, 10, 12] ?_
   iterate 7 refine gx ?_
   refine qP rfl (fun hq1 => ?_) (fun hq1 => ?_)
   ·have hmq := (hoc.resolve_right (by rintro ⟨q, h, _⟩; omega)).2
    iterate 3 refine gx ?_
    exact TE.roundX (⟨e0, v, ps, He⟩ : MkS) ⟨hGI.lit (by omega) (by omega) hmq, hL, by show ps.length ≤ 2 * (i + 1); omega⟩ hF (fun w h => h)
   ·obtain ⟨q, hq, hmq⟩ := hoc.resolve_left (by rintro ⟨h, _⟩; omega)
    subst hq
    have hsp := matchI_spec hmq
    obtain ⟨nn, hnn⟩ : ∃ nn : Nat, nn = eqN (B.drop q) (P2.drop i) := ⟨_, rfl⟩
    rw [← hnn, List.length_drop] at hsp
    obtain ⟨bo, oo, hAo, hbo, hro⟩ := hsB.2.resolve_left (by omega)
    subst hAo
    iterate 3 refine gx ?_
    refine qt (hok := ⟨fun ⟨_, _, h⟩ => (show False from h), by kernel_rfl⟩) (by kernel_rfl) [1, 0, 0, 1, 0, 0, 1, 0] rfl (by kernel_rfl) ?_
    refine qY (qA rfl) rfl (qN rfl agg22 rfl (qW (i := 6) (ent := ⟨g1, 22, [slice (some ⟨bo, oo, none⟩) mo co], 1⟩) (off := 0) rfl rfl (by exact rfl))) ?_
    refine gx ?_
    refine qH (qA rfl) rfl (fun _ => zH rfl Tryz.underlying22 size5 rfl (bnd.at_ (l := q) rfl (by omega)) bnd.dflt (by omega) (by omega) (A' := some ⟨bo, (oo + q), none⟩) (cut_is (by omega) (by omega)) (ln := (mo - q)) (cp := (co - q)) (by omega) (by omega)) ?_
    iterate 2 refine gx ?_
    refine qH (qA rfl) rfl (fun _ => zH rfl Tryz.underlying22 size5 rfl (bnd.at_ (l := i) rfl (by omega)) bnd.dflt (by omega) (by omega) (A' := some ⟨b2, (o2 + i), none⟩) (cut_is (by omega) (by omega)) (ln := (m2 - i)) (cp := (c2 - i)) (by omega) (by omega)) ?_
    refine zE (qA rfl) rfl enters42 rfl rfl (v := .int .i64 (nn : Int)) (fun w hs => (common_c (B.drop q) (P2.drop i) (some ⟨bo, (oo + q), none⟩) (some ⟨b2, (o2 + i), none⟩) (mo - q) (co - q) (m2 - i) (c2 - i) w ((((hsB.at_ (hwB.rebase hs (qp (qG (by first | assumption | (dsimp only; omega)) (qG (by first | assumption | (dsimp only; omega)) (qG (by first | assumption | (dsimp only; omega)) (qG (by first | assumption | (dsimp only; omega)) (qG (by first | assumption | (dsimp only; omega)) (qG (by first | assumption | (dsimp only; omega)) (qG (by first | assumption | (dsimp only; omega)) qS))))))) (fun e he => Nat.le_trans hwz (hF e he)))) (fun b hb => (qU (qD (by show g7 ≠ b; omega) (qD (by show g6 ≠ b; omega) (qD (by show g5 ≠ b; omega) (qD (by show g4 ≠ b; omega) (qD (by show g3 ≠ b; omega) (qD (by show g2 ≠ b; omega) (qD (by show g1 ≠ b; omega) qE))))))) (Fresh.ne hF (Nat.lt_of_lt_of_le hb hwz)))))) : Src _ (some ⟨bo, oo, none⟩) mo .u8 B).dropS (q := q) (by omega)) ((((hs2.at_ (hwB.rebase hs (qp (qG (by first | assumption | (dsimp only; omega)) (qG (by first | assumption | (dsimp only; omega)) (qG (by first | assumption | (dsimp only; omega)) (qG (by first | assumption | (dsimp only; omega)) (qG (by first | assumption | (dsimp only; omega)) (qG (by first | assumption | (dsimp only; omega)) (qG (by first | assumption | (dsimp only; omega)) qS))))))) (fun e he => Nat.le_trans hwz (hF e he)))) (fun b hb => (qU (qD (by show g7 ≠ b; omega) (qD (by show g6 ≠ b; omega) (qD (by show g5 ≠ b; omega) (qD (by show g4 ≠ b; omega) (qD (by show g3 ≠ b; omega) (qD (by show g2 ≠ b; omega) (qD (by show g1 ≠ b; omega) qE))))))) (Fresh.ne hF (Nat.lt_of_lt_of_le hb hwz)))))) : Src _ (some ⟨b2, o2, none⟩) m2 .u8 P2).dropS (q := i) (by omega)) (by omega) (by omega) (by omega) (by omega) _ rfl).mono fun e w' h => by rw [← hnn] at h; exact h) ?_
    iterate 3 refine gx ?_
    refine qC [4, 7, 8, 10, 12, 13] ?_
    refine gx ?_
    refine TC.heap (H' := [⟨g7, 68, [Value.func (.func 73) #[] #[.pointer (some ⟨gm, 0, none⟩), .pointer (some ⟨gf, 0, none⟩)]], 1⟩, ⟨g6, 3, [int .i64 (e0 : Int)], 1⟩, ⟨g5, 24, [v], 1⟩, ⟨g4, 26, [int .i64 0, int .i64 0] ++ ((List.replicate 64 0).map (int .u8) ++ ([slice none 0 0])), 67⟩, ⟨g3, 3, [int .i64 (s : Int)], 1⟩, ⟨g2, 22, [slice (some ⟨b2, o2, none⟩) m2 c2], 1⟩, ⟨g1, 22, [slice (some ⟨bo, oo, none⟩) mo co], 1⟩] ++ ([] ++ He)) (fun w h => h) ?_
    refine TC.mixBn (hok := ⟨fun ⟨_, _, h⟩ => (show False from h), by kernel_rfl⟩) (HB := [Ent.mk g7 68 ([Value.func (.func 73) #[] #[.pointer (some ⟨gm, 0, none⟩), .pointer (some ⟨gf, 0, none⟩)]]) 1, Ent.mk g6 3 ([int .i64 (e0 : Int)]) 1, Ent.mk g5 24 ([v]) 1, Ent.mk g4 26 ([int .i64 0, int .i64 0] ++ ((List.replicate 64 0).map (int .u8) ++ ([slice none 0 0]))) 67, Ent.mk g3 3 ([int .i64 (s : Int)]) 1, Ent.mk g2 22 ([slice (some ⟨b2, o2, none⟩) m2 c2]) 1, Ent.mk g1 22 ([slice (some ⟨bo, oo, none⟩) mo co]) 1]) (H := [] ++ He) (by kernel_rfl) [0, 0, 0, 0, 0, 0, 3, 0, 0, 0, 3, 3, 3, 7] [0, 1, 2, 3, 4, 5, 7, 8, 9, 6, 10, 11, 12, 13] (by kernel_rfl) ?_
    refine TP.stay (qA rfl) rfl (fun H' => qN rfl agg24 rfl (qW (i := 2) (ent := ⟨g5, 24, [v], 1⟩) (off := 0) rfl rfl (by exact rfl))) ?_
    refine TP.stay (qA rfl) rfl (fun H' => qN rfl agg3 rfl (qW (i := 1) (ent := ⟨g6, 3, [int .i64 (e0 : Int)], 1⟩) (off := 0) rfl rfl (by exact rfl))) ?_
    refine TP.stay (qA rfl) rfl (fun H' => qN rfl agg22 rfl (qW (i := 5) (ent := ⟨g2, 22, [slice (some ⟨b2, o2, none⟩) m2 c2], 1⟩) (off := 0) rfl rfl (by exact rfl))) ?_
    refine TP.stay (qA rfl) rfl (fun H' => qN rfl agg3 rfl (qW (i := 1) (ent := ⟨g6, 3, [int .i64 (e0 : Int)], 1⟩) (off := 0) rfl rfl (by exact rfl))) ?_
    refine qx (qA rfl) rfl (fun _ => qv rfl rfl) ?_
    refine qx (qA rfl) rfl (fun _ => zH rfl Tryz.underlying22 size5 rfl (bnd.at_ (l := e0) rfl (by omega)) (bnd.at_ (l := i) rfl (by omega)) (by omega) (by omega) (A' := some ⟨b2, (o2 + e0), none⟩) (cut_is (by omega) (by omega)) (ln := (i - e0)) (cp := (c2 - e0)) (by omega) (by omega)) ?_
    refine qx (qA rfl) rfl (fun _ => qv rfl rfl) ?_
    refine qx (qA rfl) rfl (fun _ => qv rfl rfl) ?_
    refine qx (qA rfl) rfl (fun _ => qv rfl rfl) ?_
    refine TP.call (ι := Value × List Ent) (V := fun y => y.1) (R := fun y => OwnL B0.heap.size 54 y.1 (ps ++ litP e0 ((P2.take i).drop e0)) y.2) (H' := fun y => [] ++ y.2) (qA rfl) rfl enters43 rfl rfl (fun w hs => (addlit_c B0 w [Ent.mk g7 68 ([Value.func (.func 73) #[] #[.pointer (some ⟨gm, 0, none⟩), .pointer (some ⟨gf, 0, none⟩)]]) 1, Ent.mk g6 3 ([int .i64 (e0 : Int)]) 1, Ent.mk g5 24 ([v]) 1, Ent.mk g4 26 ([int .i64 0, int .i64 0] ++ ((List.replicate 64 0).map (int .u8) ++ ([slice none 0 0]))) 67, Ent.mk g3 3 ([int .i64 (s : Int)]) 1, Ent.mk g2 22 ([slice (some ⟨b2, o2, none⟩) m2 c2]) 1, Ent.mk g1 22 ([slice (some ⟨bo, oo, none⟩) mo co]) 1] He v ps e0 (some ⟨b2, (o2 + e0), none⟩) (i - e0) (c2 - e0) ((P2.take i).drop e0) (by omega) (by omega) (by omega) (by omega) (by omega) hs hL (seg_src (((hs2.at_ (hwB.rebase hs (qp (qG (by first | assumption | (dsimp only; omega)) (qG (by first | assumption | (dsimp only; omega)) (qG (by first | assumption | (dsimp only; omega)) (qG (by first | assumption | (dsimp only; omega)) (qG (by first | assumption | (dsimp only; omega)) (qG (by first | assumption | (dsimp only; omega)) (qG (by first | assumption | (dsimp only; omega)) qS))))))) (fun e he => Nat.le_trans hwz (hF e he)))) (fun b hb => (qU (qD (by show g7 ≠ b; omega) (qD (by show g6 ≠ b; omega) (qD (by show g5 ≠ b; omega) (qD (by show g4 ≠ b; omega) (qD (by show g3 ≠ b; omega) (qD (by show g2 ≠ b; omega) (qD (by show g1 ≠ b; omega) qE))))))) (Fresh.ne hF (Nat.lt_of_lt_of_le hb hwz)))))) : Src _ (some ⟨b2, o2, none⟩) m2 .u8 P2) (e := e0) (i := i) (by omega) (by omega)) ((hPP.take' i).drop' e0)).mono fun e w' ⟨v', He', he, hL', hst⟩ => ⟨(v', He'), he, hL', hst⟩) (fun y hLa => ?_)
    obtain ⟨va, Ha⟩ := y
    dsimp only at hLa ⊢
    have hFa : Fresh B0 Ha := hLa.new
    refine TP.call (ι := Unit) (V := fun _ => .agg ([int .i64 1, int .i64 (i : Int), int .i64 (q : Int), int .i64 (nn : Int), slice none 0 0]).toArray) (R := fun _ => True) (H' := fun _ => [] ++ Ha) (qA rfl) rfl enters44 rfl rfl (fun w hs => (copy_c (i : Int) (q : Int) (nn : Int) w).mono fun e w' ⟨he, hw⟩ => ⟨(), he, trivial, hs.call' hw⟩) (fun _ _ => ?_)
    refine TP.buildSlice (qA rfl) rfl rfl Tryz.underlying24 size54 zero54 rfl (by decide) (by decide) (cells := #[.int .i64 1, .int .i64 (i : Int), .int .i64 (q : Int), .int .i64 (nn : Int), .slice none 0 0]) (tot := 5) (by kernel_rfl) (cs := [.int .i64 1, .int .i64 (i : Int), .int .i64 (q : Int), .int .i64 (nn : Int), .slice none 0 0]) rfl rfl (fun g8 hg8 => ?_)
    obtain ⟨Cs1, Hs1, Hd1, hCv1, hCm1, hHa, hS1, hD1⟩ := hLa
    subst hHa
    have hCl1 : Cs1.length ≤ 3000000 := by rw [← List.length_map (f := valC), hCv1, List.length_append]; have := litP_len e0 ((P2.take i).drop e0); omega
    refine TP.perm (H' := (([Ent.mk g8 54 ([int .i64 1, int .i64 (i : Int), int .i64 (q : Int), int .i64 (nn : Int), slice none 0 0]) 5] ++ Hd1) ++ Hs1)) (by show ([Ent.mk g8 54 ([int .i64 1, int .i64 (i : Int), int .i64 (q : Int), int .i64 (nn : Int), slice none 0 0]) 5] ++ (Hs1 ++ Hd1)).Perm _; rw [List.append_assoc]; exact List.Perm.append_left _ List.perm_append_comm) ?_
    refine TP.appendS (H0 := [Ent.mk g8 54 ([int .i64 1, int .i64 (i : Int), int .i64 (q : Int), int .i64 (nn : Int), slice none 0 0]) 5] ++ Hd1) (He := Hs1) (qA rfl) rfl rfl Tryz.underlying24 mk54 rfl (by decide) rfl rfl (s := 5) (nn := Cs1.length) (m := 1) (cs := flatC Cs1) (news := cellsC ⟨1, (i : Int), (q : Int), (nn : Int), none, 0, 0, []⟩) hS1 rfl (fun w hs => lies_srcV (hs.has (Ent.mk g8 54 ([int .i64 1, int .i64 (i : Int), int .i64 (q : Int), int .i64 (nn : Int), slice none 0 0]) 5) (by simp))) (by intro u hu; exact flatC_one' [⟨1, (i : Int), (q : Int), (nn : Int), none, 0, 0, []⟩] u (by rw [flatC_one]; exact hu)) (by unfold maxLen; omega) (by omega) (fun v3 Hs3 hS3 => ?_)
    obtain ⟨A3, c3, hv3, hc31, hc32⟩ := hS3.form
    subst hv3
    have hF3 : Fresh B0 (Hd1 ++ Hs3) := qp hD1.1 hS3.new
    refine TP.last1 (qA rfl) rfl rfl size24 rfl rfl rfl (i := 2) rfl rfl (by simp [] <;> omega) (cs' := [slice A3 (((Cs1.length + 1))) c3]) (rfl) (H' := [⟨g7, 68, [Value.func (.func 73) #[] #[.pointer (some ⟨gm, 0, none⟩), .pointer (some ⟨gf, 0, none⟩)]], 1⟩, ⟨g6, 3, [int .i64 (e0 : Int)], 1⟩, ⟨g5, 24, [slice A3 (((Cs1.length + 1))) c3], 1⟩, ⟨g4, 26, [int .i64 0, int .i64 0] ++ ((List.replicate 64 0).map (int .u8) ++ ([slice none 0 0])), 67⟩, ⟨g3, 3, [int .i64 (s : Int)], 1⟩, ⟨g2, 22, [slice (some ⟨b2, o2, none⟩) m2 c2], 1⟩, ⟨g1, 22, [slice (some ⟨bo, oo, none⟩) mo co], 1⟩, ⟨g8, 54, [int .i64 1, int .i64 (i : Int), int .i64 (q : Int), int .i64 (nn : Int), slice none 0 0], 5⟩] ++ (Hd1 ++ Hs3)) rfl ?_
    refine gx ?_
    refine qC [8, 10, 13] ?_
    iterate 3 refine gx ?_
    refine qB (qA rfl) rfl (qQ rfl rfl rfl (r := ((i : Int) + (nn : Int))) (w64 (by omega) (by omega))) ?_
    refine qz (qA rfl) rfl rfl size3 rfl rfl rfl (i := 1) rfl rfl (by simp [] <;> omega) (cs' := [int .i64 ((i : Int) + (nn : Int))]) (rfl) (H' := [⟨g7, 68, [Value.func (.func 73) #[] #[.pointer (some ⟨gm, 0, none⟩), .pointer (some ⟨gf, 0, none⟩)]], 1⟩, ⟨g6, 3, [int .i64 ((i : Int) + (nn : Int))], 1⟩, ⟨g5, 24, [slice A3 (((Cs1.length + 1))) c3], 1⟩, ⟨g4, 26, [int .i64 0, int .i64 0] ++ ((List.replicate 64 0).map (int .u8) ++ ([slice none 0 0])), 67⟩, ⟨g3, 3, [int .i64 (s : Int)], 1⟩, ⟨g2, 22, [slice (some ⟨b2, o2, none⟩) m2 c2], 1⟩, ⟨g1, 22, [slice (some ⟨bo, oo, none⟩) mo co], 1⟩, ⟨g8, 54, [int .i64 1, int .i64 (i : Int), int .i64 (q : Int), int .i64 (nn : Int), slice none 0 0], 5⟩] ++ (Hd1 ++ Hs3)) rfl ?_
    iterate 2 refine gx ?_
    exact TE.roundX (⟨i + nn, slice A3 (Cs1.length + 1) c3, (ps ++ litP e0 ((P2.take i).drop e0)) ++ [(1, (i : Int), (q : Int), (nn : Int), [])], Hs3 ++ Hd1⟩ : MkS) ⟨by show GI B P2 (s : Int) (i + 1) (i + nn) _; rw [hnn]; exact hGI.copy (by omega) (by omega) hmq, ⟨Cs1 ++ [⟨1, (i : Int), (q : Int), (nn : Int), none, 0, 0, []⟩], Hs3, Hd1, by rw [List.map_append, hCv1]; rfl, ms_add hCm1 rfl, rfl, by rw [List.length_append, flatC_app, flatC_one]; exact hS3, hD1.addC (by unfold NumC; dsimp only; omega)⟩, by simp only [List.length_append, List.length_singleton]; have := litP_len e0 ((P2.take i).drop e0); omega⟩ (qp hS3.new hD1.1) (fun w h => roundx_keep (Hc := [Ent.mk g7 68 ([Value.func (.func 73) #[] #[.pointer (some ⟨gm, 0, none⟩), .pointer (some ⟨gf, 0, none⟩)]]) 1, Ent.mk g6 3 ([int .i64 ((i : Int) + (nn : Int))]) 1, Ent.mk g5 24 ([slice A3 (((Cs1.length + 1))) c3]) 1, Ent.mk g4 26 ([int .i64 0, int .i64 0] ++ ((List.replicate 64 0).map (int .u8) ++ ([slice none 0 0]))) 67, Ent.mk g3 3 ([int .i64 (s : Int)]) 1, Ent.mk g2 22 ([slice (some ⟨b2, o2, none⟩) m2 c2]) 1, Ent.mk g1 22 ([slice (some ⟨bo, oo, none⟩) mo co]) 1]) (d := Ent.mk g8 54 ([int .i64 1, int .i64 (i : Int), int .i64 (q : Int), int .i64 (nn : Int), slice none 0 0]) 5) h (by assumption))
 ·obtain ⟨e0, v, ps, He⟩ := x
  obtain ⟨hGI, hL, hpl⟩ := hC
  dsimp only at hGI hL hpl hF hB ⊢
  have hwB0' : St w [⟨g7, 68, [Value.func (.func 73) #[] #[.pointer (some ⟨gm, 0, none⟩), .pointer (some ⟨gf, 0, none⟩)]], 1⟩, ⟨g6, 3, [int .i64 (e0 : Int)], 1⟩, ⟨g5, 24, [v], 1⟩, ⟨g4, 26, [int .i64 0, int .i64 0] ++ ((List.replicate 64 0).map (int .u8) ++ ([slice none 0 0])), 67⟩, ⟨g3, 3, [int .i64 k], 1⟩, ⟨g2, 22, [slice A2 m2 c2], 1⟩, ⟨g1, 22, [slice Ao mo co], 1⟩] B0 := hwB.rebase hB (qG (by first | assumption | (dsimp only; omega)) (qG (by first | assumption | (dsimp only; omega)) (qG (by first | assumption | (dsimp only; omega)) (qG (by first | assumption | (dsimp only; omega)) (qG (by first | assumption | (dsimp only; omega)) (qG (by first | assumption | (dsimp only; omega)) (qG (by first | assumption | (dsimp only; omega)) qS)))))))
  have hfrC : ∀ e ∈ ([⟨g7, 68, [Value.func (.func 73) #[] #[.pointer (some ⟨gm, 0, none⟩), .pointer (some ⟨gf, 0, none⟩)]], 1⟩, ⟨g6, 3, [int .i64 (e0 : Int)], 1⟩, ⟨g5, 24, [v], 1⟩, ⟨g4, 26, [int .i64 0, int .i64 0] ++ ((List.replicate 64 0).map (int .u8) ++ ([slice none 0 0])), 67⟩, ⟨g3, 3, [int .i64 k], 1⟩, ⟨g2, 22, [slice A2 m2 c2], 1⟩, ⟨g1, 22, [slice Ao mo co], 1⟩] : List Ent), w.heap.size ≤ e.g := (qG (by first | assumption | (dsimp only; omega)) (qG (by first | assumption | (dsimp only; omega)) (qG (by first | assumption | (dsimp only; omega)) (qG (by first | assumption | (dsimp only; omega)) (qG (by first | assumption | (dsimp only; omega)) (qG (by first | assumption | (dsimp only; omega)) (qG (by first | assumption | (dsimp only; omega)) qS)))))))
  have hwB : St w [] B0 := zJ [⟨g7, 68, [Value.func (.func 73) #[] #[.pointer (some ⟨gm, 0, none⟩), .pointer (some ⟨gf, 0, none⟩)]], 1⟩, ⟨g6, 3, [int .i64 (e0 : Int)], 1⟩, ⟨g5, 24, [v], 1⟩, ⟨g4, 26, [int .i64 0, int .i64 0] ++ ((List.replicate 64 0).map (int .u8) ++ ([slice none 0 0])), 67⟩, ⟨g3, 3, [int .i64 k], 1⟩, ⟨g2, 22, [slice A2 m2 c2], 1⟩, ⟨g1, 22, [slice Ao mo co], 1⟩] (by rw [List.append_nil]; exact hwB0') hfrC
  have hwz := hwB.size
  have hP2l := hs2.1
  have hBl := hsB.1
  have hle := hGI.le
  have hGI2 : GI B P2 k (cntH P2.length k) e0 ps := by rw [hP2l]; exact hGI
  have hcm := cntH_le m2 k
  have h1b := Nat.lt_of_lt_of_le h1 hwB.size
  have hIVb := hIV.keepH hwB (show 0 < _ by omega) qE
  have hKb := hK.keepH hwB (show 2 < _ by omega) qE
  iterate 3 refine gx ?_
  refine TC.heap (H' := [⟨g7, 68, [Value.func (.func 73) #[] #[.pointer (some ⟨gm, 0, none⟩), .pointer (some ⟨gf, 0, none⟩)]], 1⟩, ⟨g6, 3, [int .i64 (e0 : Int)], 1⟩, ⟨g5, 24, [v], 1⟩, ⟨g4, 26, [int .i64 0, int .i64 0] ++ ((List.replicate 64 0).map (int .u8) ++ ([slice none 0 0])), 67⟩, ⟨g3, 3, [int .i64 k], 1⟩, ⟨g2, 22, [slice A2 m2 c2], 1⟩, ⟨g1, 22, [slice Ao mo co], 1⟩] ++ ([] ++ He)) (fun w h => h) ?_
  refine TC.mixB (HB := [Ent.mk g7 68 ([Value.func (.func 73) #[] #[.pointer (some ⟨gm, 0, none⟩), .pointer (some ⟨gf, 0, none⟩)]]) 1, Ent.mk g6 3 ([int .i64 (e0 : Int)]) 1, Ent.mk g5 24 ([v]) 1, Ent.mk g4 26 ([int .i64 0, int .i64 0] ++ ((List.replicate 64 0).map (int .u8) ++ ([slice none 0 0]))) 67, Ent.mk g3 3 ([int .i64 k]) 1, Ent.mk g2 22 ([slice A2 m2 c2]) 1, Ent.mk g1 22 ([slice Ao mo co]) 1]) (H := [] ++ He) (by kernel_rfl) [0, 0, 0, 0, 0, 0, 0, 3, 3, 7] [0, 1, 2, 3, 4, 5, 6, 7, 8, 9] (by kernel_rfl) ?_
  refine TP.stay (qA rfl) rfl (fun H' => qN rfl agg22 rfl (qW (i := 6) (ent := ⟨g1, 22, [slice Ao mo co], 1⟩) (off := 0) rfl rfl (by exact rfl))) ?_
  refine TP.stay (qA rfl) rfl (fun H' => qN rfl agg22 rfl (qW (i := 5) (ent := ⟨g2, 22, [slice A2 m2 c2], 1⟩) (off := 0) rfl rfl (by exact rfl))) ?_
  refine TP.stay (qA rfl) rfl (fun H' => qN rfl agg24 rfl (qW (i := 2) (ent := ⟨g5, 24, [v], 1⟩) (off := 0) rfl rfl (by exact rfl))) ?_
  refine TP.stay (qA rfl) rfl (fun H' => qN rfl agg3 rfl (qW (i := 1) (ent := ⟨g6, 3, [int .i64 (e0 : Int)], 1⟩) (off := 0) rfl rfl (by exact rfl))) ?_
  refine TP.stay (qA rfl) rfl (fun H' => qN rfl agg22 rfl (qW (i := 5) (ent := ⟨g2, 22, [slice A2 m2 c2], 1⟩) (off := 0) rfl rfl (by exact rfl))) ?_
  refine TP.stay (qA rfl) rfl (fun H' => qN rfl agg3 rfl (qW (i := 1) (ent := ⟨g6, 3, [int .i64 (e0 : Int)], 1⟩) (off := 0) rfl rfl (by exact rfl))) ?_
  refine qx (qA rfl) rfl (fun _ => zH rfl Tryz.underlying22 size5 rfl (bnd.at_ (l := e0) rfl (by omega)) bnd.dflt (by omega) (by omega) rfl (ln := (m2 - e0)) (cp := (c2 - e0)) (by omega) (by omega)) ?_
  refine TP.call (ι := Value × List Ent) (V := fun y => y.1) (R := fun y => OwnL B0.heap.size 54 y.1 (ps ++ litP e0 (P2.drop e0)) y.2) (H' := fun y => [] ++ y.2) (qA rfl) rfl enters43 rfl rfl (fun w hs => (addlit_c B0 w [Ent.mk g7 68 ([Value.func (.func 73) #[] #[.pointer (some ⟨gm, 0, none⟩), .pointer (some ⟨gf, 0, none⟩)]]) 1, Ent.mk g6 3 ([int .i64 (e0 : Int)]) 1, Ent.mk g5 24 ([v]) 1, Ent.mk g4 26 ([int .i64 0, int .i64 0] ++ ((List.replicate 64 0).map (int .u8) ++ ([slice none 0 0]))) 67, Ent.mk g3 3 ([int .i64 k]) 1, Ent.mk g2 22 ([slice A2 m2 c2]) 1, Ent.mk g1 22 ([slice Ao mo co]) 1] He v ps e0 (cutA A2 c2 e0 1) (m2 - e0) (c2 - e0) (P2.drop e0) (by omega) (by omega) (by omega) (by omega) (by omega) hs hL ((((hs2.at_ (hwB.rebase hs (qp (qG (by first | assumption | (dsimp only; omega)) (qG (by first | assumption | (dsimp only; omega)) (qG (by first | assumption | (dsimp only; omega)) (qG (by first | assumption | (dsimp only; omega)) (qG (by first | assumption | (dsimp only; omega)) (qG (by first | assumption | (dsimp only; omega)) (qG (by first | assumption | (dsimp only; omega)) qS))))))) (fun e he => Nat.le_trans hwz (hF e he)))) (fun b hb => (qU (qD (by show g7 ≠ b; omega) (qD (by show g6 ≠ b; omega) (qD (by show g5 ≠ b; omega) (qD (by show g4 ≠ b; omega) (qD (by show g3 ≠ b; omega) (qD (by show g2 ≠ b; omega) (qD (by show g1 ≠ b; omega) qE))))))) (Fresh.ne hF (Nat.lt_of_lt_of_le hb hwz)))))).toX0.drop (l := e0) (by omega) hm2).src) (hPP.drop' e0)).mono fun e w' ⟨v', He', he, hL', hst⟩ => ⟨(v', He'), he, hL', hst⟩) (fun y hLa => ?_)
  obtain ⟨va, Ha⟩ := y
  dsimp only at hLa ⊢
  have hFa : Fresh B0 Ha := hLa.new
  have hpl2 : (ps ++ litP e0 (P2.drop e0)).length ≤ 601 := by rw [List.length_append]; have := litP_len e0 (P2.drop e0); omega
  rw [hGI2.end_] at hLa hpl2
  obtain ⟨Aa, ca, hva, hca, hca2⟩ := hLa.form
  subst hva
  obtain ⟨Cx, hCx, hCm, hml, hOD⟩ := hLa.ownD
  obtain ⟨nL, hnL⟩ : ∃ nL : Nat, nL = (cmdsL B P2 k).length := ⟨_, rfl⟩
  rw [← hnL] at hLa hca hOD hpl2 ⊢
  have hCl : Cx.length = nL := by rw [hnL, ← hCx, List.length_map]
  refine TP.call (ι := (Option Addr × Nat) × (List CV × List Ent)) (V := fun y => .agg (dV (mo : Int) (m2 : Int) (shaM B) (shaM P2) (slice y.1.1 nL y.1.2)).toArray) (R := fun y => (nL ≤ y.1.2 ∧ y.1.2 ≤ 9223372036854775807) ∧ OwnD B0.heap.size y.1.1 nL y.2.1 y.2.2 ∧ sameE y.2.1 Cx) (H' := fun y => ([] ++ Ha) ++ y.2.2) (qA rfl) rfl enters19 rfl rfl (fun w hs => (desc8_c B P2 Ao A2 mo co m2 c2 Aa nL ca Cx hmo hm2 hco hcm2 (by omega) (by omega) (by omega) hOD.num w (hsB.at_ (hwB.rebase hs (qp (qG (by first | assumption | (dsimp only; omega)) (qG (by first | assumption | (dsimp only; omega)) (qG (by first | assumption | (dsimp only; omega)) (qG (by first | assumption | (dsimp only; omega)) (qG (by first | assumption | (dsimp only; omega)) (qG (by first | assumption | (dsimp only; omega)) (qG (by first | assumption | (dsimp only; omega)) qS))))))) (fun e he => Nat.le_trans hwz (hFa e he)))) (fun b hb => (qU (qD (by show g7 ≠ b; omega) (qD (by show g6 ≠ b; omega) (qD (by show g5 ≠ b; omega) (qD (by show g4 ≠ b; omega) (qD (by show g3 ≠ b; omega) (qD (by show g2 ≠ b; omega) (qD (by show g1 ≠ b; omega) qE))))))) (Fresh.ne hFa (Nat.lt_of_lt_of_le hb hwz))))) (hs2.at_ (hwB.rebase hs (qp (qG (by first | assumption | (dsimp only; omega)) (qG (by first | assumption | (dsimp only; omega)) (qG (by first | assumption | (dsimp only; omega)) (qG (by first | assumption | (dsimp only; omega)) (qG (by first | assumption | (dsimp only; omega)) (qG (by first | assumption | (dsimp only; omega)) (qG (by first | assumption | (dsimp only; omega)) qS))))))) (fun e he => Nat.le_trans hwz (hFa e he)))) (fun b hb => (qU (qD (by show g7 ≠ b; omega) (qD (by show g6 ≠ b; omega) (qD (by show g5 ≠ b; omega) (qD (by show g4 ≠ b; omega) (qD (by show g3 ≠ b; omega) (qD (by show g2 ≠ b; omega) (qD (by show g1 ≠ b; omega) qE))))))) (Fresh.ne hFa (Nat.lt_of_lt_of_le hb hwz))))) (hOD.src (fun e he => hs.has e (by simp [he]))) (hOD.dat (fun e he => hs.has e (by simp [he]))) (cmds_few hCx hCm (by omega) (by omega)) (Nat.lt_of_lt_of_le h1b hs.size) (hIVb.keepH hs (by omega) (qU (qD (by show g7 ≠ 0; omega) (qD (by show g6 ≠ 0; omega) (qD (by show g5 ≠ 0; omega) (qD (by show g4 ≠ 0; omega) (qD (by show g3 ≠ 0; omega) (qD (by show g2 ≠ 0; omega) (qD (by show g1 ≠ 0; omega) qE))))))) (qU qE (hFa.ne (by omega))))) (hKb.keepH hs h1b (qU (qD (by show g7 ≠ 2; omega) (qD (by show g6 ≠ 2; omega) (qD (by show g5 ≠ 2; omega) (qD (by show g4 ≠ 2; omega) (qD (by show g3 ≠ 2; omega) (qD (by show g2 ≠ 2; omega) (qD (by show g1 ≠ 2; omega) qE))))))) (qU qE (hFa.ne h1b))))).mono fun e w' ⟨A', c', Fs, Hw, he, hc, ho, hsm, hw⟩ => ⟨((A', c'), (Fs, Hw)), he, ⟨hc, ho.mono hs.size, hsm⟩, by rw [← List.append_assoc]; exact st_call hs hw ho.1⟩) (fun y hR => ?_)
  obtain ⟨⟨As, cs⟩, Fs, Hw⟩ := y
  obtain ⟨hcs, hos, hsm⟩ := hR
  dsimp only at hcs hos hsm ⊢
  have hFw : Fresh B0 Hw := hos.1
  refine TP.lastW (qA rfl) rfl rfl size26 rfl (vs := dV (mo : Int) (m2 : Int) (shaM B) (shaM P2) (slice As nL cs)) rfl (by simp [(shaM_len B), (shaM_len P2)]) (zB (by simp [Value.oneCell']) (zB qw (zB qw (by simp [Value.oneCell'])))) (i := 3) (ent := ⟨g4, 26, [int .i64 0, int .i64 0] ++ ((List.replicate 64 0).map (int .u8) ++ ([slice none 0 0])), 67⟩) rfl rfl (by simp []) (H' := [⟨g7, 68, [Value.func (.func 73) #[] #[.pointer (some ⟨gm, 0, none⟩), .pointer (some ⟨gf, 0, none⟩)]], 1⟩, ⟨g6, 3, [int .i64 (e0 : Int)], 1⟩, ⟨g5, 24, [v], 1⟩, ⟨g4, 26, dV (mo : Int) (m2 : Int) (shaM B) (shaM P2) (slice As nL cs), 67⟩, ⟨g3, 3, [int .i64 k], 1⟩, ⟨g2, 22, [slice A2 m2 c2], 1⟩, ⟨g1, 22, [slice Ao mo co], 1⟩] ++ (([] ++ Ha) ++ Hw)) rfl ?_
  iterate 2 refine gx ?_
  refine TE.markR (n := ⟨_, [], .plain⟩) (w0 := w) (gs := [g7, g6, g5, g4, g3, g2, g1]) ⟨Nat.le_trans hwz0 hlo, hD, fun x hx => by have := hgl x hx; omega⟩ hwB0' hfrC ?_ ?_ (.inl rfl)
  ·intro e he
   rcases List.mem_append.1 he with he | he
   ·exact .inr (by simp only [List.mem_cons, List.not_mem_nil, or_false] at he; rcases he with rfl | rfl | rfl | rfl | rfl | rfl | rfl <;> simp)
   ·exact .inl ((qp (qp qS hFa) hFw) e he)
  exact ql rfl agg26 size26 rfl (vs := dV (mo : Int) (m2 : Int) (shaM B) (shaM P2) (slice As nL cs)) (by simp [(shaM_len B), (shaM_len P2)]) (qX (i := 3) (ent := ⟨g4, 26, dV (mo : Int) (m2 : Int) (shaM B) (shaM P2) (slice As nL cs), 67⟩) rfl rfl rfl) (fun w2 hs => ⟨As, cs, nL, Fs, Hw, rfl, hcs, hos.mono hwz, ⟨by rw [← hCx]; exact hsm.c, fun x hx => mk_m hsm hCm x hx⟩, hsm.len.trans hCl, mk_drop (X := [Ent.mk g7 68 ([Value.func (.func 73) #[] #[.pointer (some ⟨gm, 0, none⟩), .pointer (some ⟨gf, 0, none⟩)]]) 1, Ent.mk g6 3 ([int .i64 (e0 : Int)]) 1, Ent.mk g5 24 ([v]) 1, Ent.mk g4 26 (dV (mo : Int) (m2 : Int) (shaM B) (shaM P2) (slice As nL cs)) 67, Ent.mk g3 3 ([int .i64 k]) 1, Ent.mk g2 22 ([slice A2 m2 c2]) 1, Ent.mk g1 22 ([slice Ao mo co]) 1]) hs (qG (by first | assumption | (dsimp only; omega)) (qG (by first | assumption | (dsimp only; omega)) (qG (by first | assumption | (dsimp only; omega)) (qG (by first | assumption | (dsimp only; omega)) (qG (by first | assumption | (dsimp only; omega)) (qG (by first | assumption | (dsimp only; omega)) (qG (by first | assumption | (dsimp only; omega)) qS))))))) (fun e he => Nat.le_trans hwz (hFa e he))⟩)
/-
 The new file, copied together command by command.
-/
section
variable {P : Program} {ops : Array Oper} {Q : Exit → Act → World → Prop} {n : Sz} {w0 : World} {L L' : List (Nat × Value)} {HB H : List Ent}
variable {o : Oper} {rest : List Oper} {v u : Value} {x y z : Operand} {k m j : Nat} {t t' e : TypeId} {ks : List Nat} {kd : IntKind}
theorem TP.copyP {i g off dl dc sl sc : Nat} {ent : Ent} {A : Option Addr} {B : List Int} (hg : Wants n ops L o) (hi' : inside n o.dst = true) (ho : o.op = .call { callee := .builtin .copy, args := #[x, y], argTypes := #[t, t'] })
  (h1 : P.underlying t = some (.slice e)) (hsz : (P.info? e).map (·.size) = some 1)
  (hx : ev L x = some (.slice (some ⟨g, off, none⟩) dl dc)) (hy : ev L y = some (.slice A sl sc)) (hi : (HB ++ H)[i]? = some ent) (he : ent.g = g) (hoff : off + dl ≤ ent.cs.length)
  (hsrc : ∀ w, St w0 (HB ++ H) w → Src w A sl kd B) {c : Nat} (hc : min sl dl = c)
  {cs' : List Value} (hcs : ent.cs.take off ++ (B.take c).map (int kd) ++ ent.cs.drop (off + c) = cs') {H' : List Ent} (hH : (HB ++ H).set i ⟨ent.g, ent.t, cs', ent.tot⟩ = HB ++ H')
  (hr : TP P ops Q n w0 HB ks rest (put L o.dst (.int .i64 c)) H') : TP P ops Q n w0 HB (3 :: ks) (o :: rest) L H := by
 refine TP.value (ι := Unit) (V := fun _ => .int .i64 c) (R := fun _ => True) (H' := fun _ => H') hg hi' (fun a w hf hs => ?_) fun _ _ => hr
 subst hc; subst hcs
 have hB := hsrc w hs
 have hlen : ((B.take (min sl dl)).map (int kd)).length = min sl dl := by simp; have := hB.1; omega
 obtain ⟨w', hrun, hs'⟩ := run_storeCells (P := P) (i := i) (g := g) (ent := ent) (off := off) ((B.take (min sl dl)).map (int kd)) 0 (HB ++ H) ent w he hs hi qw (by rw [hlen]; omega)
 have hrun' : (execOp a.eval o).run P w = .ok (.value (.int .i64 (min sl dl : Nat))) w' := by
  simp only [execOp, ho, resolve, invoke, builtin, Sem.run_bind, Sem.run_pure, Result.andThen_ok, List.map_toArray, List.map_cons, List.map_nil, hf.eval hx, hf.eval hy]
  have h5 : (Builtin.copy_ #[t, t'] o.type #[.slice (some ⟨g, off, none⟩) dl dc, .slice A sl sc]).run P w = .ok (.int .i64 (min sl dl : Nat)) w' := by
   unfold Builtin.copy_
   simp only [List.getElem?_toArray, List.getElem?_cons_zero, List.getElem?_cons_succ, Sem.run_bind, run_under h1, Result.andThen_ok, Builtin.lenOf, Sem.run_pure, run_size hsz]
   have h6 := run_cells (P := P) (c := sc) hB (i := Nat.min sl dl) (Nat.min_le_left _ _)
   rw [h6]
   simp only [Result.andThen_ok]
   have h7 : (storeCells ⟨g, off, none⟩ ((B.take (Nat.min sl dl)).map (int kd)) 0).run P w = .ok () w' := hrun
   rw [h7]
   rfl
  rw [h5]; rfl
 rw [hlen] at hs'
 refine ⟨(), w', hrun', trivial, ?_⟩
 rw [← hH]; simpa using hs'
end
def contV (Ao : Option Addr) (co : Nat) (x : CV) : Value := if x.k = 1 then .slice (cutA Ao co x.f.toNat 1) x.l.toNat (co - x.f.toNat) else .slice x.A x.m x.c
theorem vkinds {o n : Int} {Cs : List CV} (h : ValidC o n Cs) {i : Nat} {x : CV} (hx : Cs[i]? = some x) : (x.k = 1 ∧ 0 ≤ x.f ∧ 1 ≤ x.l ∧ x.f + x.l ≤ o ∧ x.m = 0) ∨ (x.k = 2 ∧ x.f = 0 ∧ x.l = 0 ∧ 1 ≤ x.m) := by
 have h1 := h.single i x hx
 have h2 : codeV x.k x.t x.f x.l x.m = 0 := by
  apply Classical.byContradiction
  intro hne
  unfold singleV at h1; rw [if_neg hne] at h1; exact hne h1
 unfold singleV at h1; rw [if_pos h2] at h1
 rcases codeV0 h2 with hk | hk
 ·left
  rw [hk] at h2
  obtain ⟨a1, a2, a3, a4⟩ := codeV1.1 h2
  unfold vld at a3 a4
  by_cases hc : x.k = 1 ∧ o < x.f + x.l
  ·rw [if_pos hc] at h1; omega
  ·exact ⟨hk, by omega, by omega, by omega, a2⟩
 ·right
  rw [hk] at h2
  obtain ⟨a1, a2, a3, a4⟩ := codeV2.1 h2
  exact ⟨hk, a2, a3, by omega⟩
theorem vokp {o n : Int} {Cs : List CV} {B : List Int} (h : ValidC o n Cs) {i : Nat} {x : CV} (hx : Cs[i]? = some x) (hm : x.m = x.B.length) (hB : (B.length : Int) = o) : okPC B (valC x) := by
 unfold okPC valC
 dsimp only
 rcases vkinds h hx with h1 | h1
 ·exact .inl ⟨h1.1, h1.2.1, h1.2.2.1, by omega, List.length_eq_zero_iff.1 (by omega)⟩
 ·exact .inr ⟨h1.1, h1.2.1, h1.2.2.1, fun e => by rw [e] at hm; simp at hm; omega⟩
theorem seg_length {B : List Int} {x : CV} (h : okPC B (valC x)) (hm : x.m = x.B.length) : ((segP B (valC x)).length : Int) = (tg x).2 := by
 rw [seg_at h hm, List.length_map, List.length_range]
 unfold okPC valC at h
 unfold tg lenV
 dsimp only at h ⊢
 rcases h with h | h
 ·rw [if_pos h.1]; omega
 ·rw [if_neg (by omega)]; omega
theorem seg_get {B : List Int} {x : CV} (h : okPC B (valC x)) (hm : x.m = x.B.length) {p : Int} (hp : hasB (tg x) p) : (segP B (valC x))[(p - x.t).toNat]? = some (atV B x p) := by
 rw [seg_at h hm]
 have h1 : x.t ≤ p := hp.1
 have h2 : p < x.t + (tg x).2 := hp.2
 rw [List.getElem?_map, List.getElem?_range (by omega)]
 simp only [Option.map_some]
 congr 2
 omega
def putI (B : List Int) (Cs : List CV) (n : Int) (i : Nat) (L : List Int) : Prop := L.length = n.toNat ∧ ∀ (j : Nat) (x : CV) (p : Int), j < i → Cs[j]? = some x → hasB (tg x) p → L[p.toNat]? = some (atV B x p)
theorem putI.zero (B : List Int) (Cs : List CV) (n : Int) : putI B Cs n 0 (List.replicate n.toNat 0) := ⟨by simp, fun j x p hj => absurd hj (Nat.not_lt_zero j)⟩
theorem putI.next {B : List Int} {Cs : List CV} {o n : Int} {i : Nat} {L : List Int} {x : CV} (h : putI B Cs n i L) (hv : ValidC o n Cs) (hx : Cs[i]? = some x) (hm : x.m = x.B.length) (hB : (B.length : Int) = o) :
  putI B Cs n (i + 1) (L.take x.t.toNat ++ segP B (valC x) ++ L.drop (x.t.toNat + (segP B (valC x)).length)) := by
 have hok := vokp hv hx hm hB
 have hsl := seg_length hok hm
 have h3 := hv.tidy.1 _ (List.mem_map_of_mem (f := tg) (List.mem_of_getElem? hx))
 unfold okT at h3
 have e1 : (tg x).1 = x.t := rfl
 rw [e1] at h3
 have hLl := h.1
 have hlt : (L.take x.t.toNat).length = x.t.toNat := by rw [List.length_take]; omega
 refine ⟨by simp only [List.length_append, List.length_drop, hlt]; omega, fun j y p hj hy hp => ?_⟩
 have hp1 : y.t ≤ p := hp.1
 have hp2 : p < y.t + (tg y).2 := hp.2
 have h4 := hv.tidy.1 _ (List.mem_map_of_mem (f := tg) (List.mem_of_getElem? hy))
 unfold okT at h4
 have e2 : (tg y).1 = y.t := rfl
 rw [e2] at h4
 by_cases hji : j = i
 ·subst hji
  rw [hx] at hy; cases hy
  rw [List.append_assoc, List.getElem?_append_right (by rw [hlt]; omega), hlt, List.getElem?_append_left (by omega)]
  have := seg_get hok hm hp
  rw [← this]
  congr 1
  omega
 ·have hap : apartT (tg y) (tg x) := by
   have hil := (List.getElem?_eq_some_iff.1 hx).1
   have hjl := (List.getElem?_eq_some_iff.1 hy).1
   have := List.pairwise_iff_getElem.1 hv.tidy.2 j i (by simpa using hjl) (by simpa using hil) (by omega)
   simp only [List.getElem_map, (List.getElem?_eq_some_iff.1 hx).2, (List.getElem?_eq_some_iff.1 hy).2] at this
   exact this
  have h5 := h.2 j y p (by omega) hy hp
  unfold apartT at hap
  rw [e1, e2] at hap
  rcases hap with hap | hap
  ·rw [List.append_assoc, List.getElem?_append_left (by rw [hlt]; omega), List.getElem?_take, if_pos (by omega)]; exact h5
  ·rw [List.getElem?_append_right (by simp only [List.length_append, hlt]; omega)]
   simp only [List.length_append, hlt]
   rw [List.getElem?_drop]
   rw [← h5]
   congr 1
   omega
theorem putI.done {B : List Int} {Cs : List CV} {o n : Int} {i : Nat} {L : List Int} (h : putI B Cs n i L) (hv : ValidC o n Cs) (hi : Cs.length ≤ i) : L = newB B Cs n := by
 have hn := hv.len
 unfold okLen at hn
 apply List.ext_getElem?
 intro q
 by_cases hq : (q : Int) < n
 ·obtain ⟨j, x, h1, h2, h3⟩ := hv.find (p := (q : Int)) (by omega) hq
  have h4 := h.2 j x q (by have := (List.getElem?_eq_some_iff.1 h2).1; omega) h2 h3
  rw [Int.toNat_natCast] at h4
  rw [h4, newB_get hq, byteI_of hv.tidy h2 h3]
 ·rw [List.getElem?_eq_none (by have := h.1; omega), List.getElem?_eq_none (by rw [newB_len]; omega)]
theorem cutA_src {w : World} {A : Option Addr} {m c q l : Nat} {kd : IntKind} {B : List Int} (h : Src w A m kd B) (hmc : m ≤ c) (hl : 1 ≤ l) (hq : q + l ≤ m) : Src w (cutA A c q 1) l kd ((B.drop q).take l) := by
 obtain ⟨b, o, rfl, hb, hr⟩ := h.2.resolve_left (by omega)
 rw [cut_is (b := b) (off := o) (cap := c) (l := q) (size := 1) (by omega) rfl, Nat.mul_one]
 exact h.cut (l := q) (n := l) hq
theorem contV_src {w : World} {Ao : Option Addr} {mo co : Nat} {o n : Int} {B : List Int} {Cs : List CV} {i : Nat} {x : CV} (hv : ValidC o n Cs) (hx : Cs[i]? = some x) (hsB : Src w Ao mo .u8 B) (ho : o = mo) (hmo : mo ≤ co) (hco : co ≤ 9223372036854775807) (hsx : Src w x.A x.m .u8 x.B) (hn : NumC x) :
  ∃ A m c, contV Ao co x = .slice A m c ∧ Src w A m .u8 (segP B (valC x)) ∧ m ≤ c ∧ c ≤ 9223372036854775807 ∧ (m : Int) = (tg x).2 := by
 unfold NumC at hn
 unfold contV segP tg lenV valC
 dsimp only
 rcases vkinds hv hx with h | h
 ·rw [if_pos h.1, if_pos h.1, if_pos h.1]
  exact ⟨_, _, _, rfl, cutA_src hsB hmo (by omega) (by omega), by omega, by omega, by omega⟩
 ·rw [if_neg (by omega), if_neg (by omega), if_neg (by omega)]
  exact ⟨_, _, _, rfl, hsx, by omega, by omega, rfl⟩
/-
 The code of layer 8: fits, content.
-/
theorem enters48 : Enters Tryz.prog 48 := ⟨_, Tryz.func48, by kernel_rfl, by kernel_rfl⟩
theorem fits8_c (Ao : Option Addr) (mo co : Nat) (hco : co ≤ 9223372036854775807) (hmo : mo ≤ co) (o n : Int) (H1 H2 : List Int) (hH1 : H1.length = 32) (hH2 : H2.length = 32) (A : Option Addr) (m c : Nat) (Cs : List CV) (hmm : m ≤ 1000000000) (hN : NumsC Cs) (w : World) (hC : SrcC w A m Cs) (hD : DatC w Cs) (bo : -9223372036854775808 ≤ o ∧ o ≤ 9223372036854775807) (bn : -9223372036854775808 ≤ n ∧ n ≤ 9223372036854775807)  : Calls Tryz.prog 28 #[.slice Ao mo co, .agg (dV o n H1 H2 (slice A m c)).toArray] w fun e w' => e = .returned (.bool (decide (o = (mo : Int) ∧ (faultI o n Cs).1 = 0))) ∧ St w [] w' := by
 refine qM (args := [.slice Ao mo co, .agg (dV o n H1 H2 (slice A m c)).toArray]) Tryz.func28 rfl Tryz.ntmps28 (by simp) ?_
 refine qC [0, 1] ?_
 iterate 2 refine gx ?_
 refine qu (qA rfl) rfl rfl rfl (cs := dV o n H1 H2 (slice A m c)) (by simp [Value.cells]) (tot := 67) (by simp [hH1, hH2]) (fun g1 hg1 => ?_)
 iterate 9 refine gx ?_
 by_cases c1 : o = (mo : Int)
 ·refine qB (qA rfl) rfl (qV (qj rfl rfl rfl) c1) ?_
  iterate 2 refine gx ?_
  by_cases c2 : (faultI o n Cs).1 = 0
  ·refine qL (qI rfl rfl rfl) rfl enters48 rfl rfl (v := .bool true) (fun w hs => (dvalid_c o n H1 H2 hH1 hH2 A m c Cs hmm hN w (hC.at_ hs (fun b hb => (qD (by show g1 ≠ b; omega) qE))) (hD.at_ hs (fun b hb => (qD (by show g1 ≠ b; omega) qE))) bo bn).mono fun e w' h => by rw [decide_eq_true (p := (faultI o n Cs).1 = 0) c2] at h; exact h) ?_
   iterate 5 refine gx ?_
   exact qK rfl rfl (fun w hs => ⟨dec_t (by first | exact ⟨c1, c2⟩ | exact fun h => c2 h.2 | exact fun h => c1 h.1), (hs.drop (by assumption))⟩)
  ·refine qL (qI rfl rfl rfl) rfl enters48 rfl rfl (v := .bool false) (fun w hs => (dvalid_c o n H1 H2 hH1 hH2 A m c Cs hmm hN w (hC.at_ hs (fun b hb => (qD (by show g1 ≠ b; omega) qE))) (hD.at_ hs (fun b hb => (qD (by show g1 ≠ b; omega) qE))) bo bn).mono fun e w' h => by rw [decide_eq_false (p := (faultI o n Cs).1 = 0) c2] at h; exact h) ?_
   iterate 5 refine gx ?_
   exact qK rfl rfl (fun w hs => ⟨dec_f (by first | exact ⟨c1, c2⟩ | exact fun h => c2 h.2 | exact fun h => c1 h.1), (hs.drop (by assumption))⟩)
 ·refine qB (qA rfl) rfl (qT (qj rfl rfl rfl) c1) ?_
  iterate 8 refine gx ?_
  exact qK rfl rfl (fun w hs => ⟨dec_f (by first | exact ⟨c1, c2⟩ | exact fun h => c2 h.2 | exact fun h => c1 h.1), (hs.drop (by assumption))⟩)
theorem content1_c (Ao : Option Addr) (mo co : Nat) (hmo : mo ≤ co) (hco : co ≤ 9223372036854775807) (t : Int) (fn ln : Nat) (A : Option Addr) (m c : Nat) (hl : 1 ≤ ln) (hq : fn + ln ≤ mo) (w : World) : Calls Tryz.prog 29 #[.slice Ao mo co, .agg ([int .i64 1, int .i64 t, int .i64 (fn : Int), int .i64 (ln : Int), slice A m c]).toArray] w fun e w' => e = .returned (.slice (cutA Ao co fn 1) ln (co - fn)) ∧ St w [] w' := by
 refine qM (args := [.slice Ao mo co, .agg ([int .i64 1, int .i64 t, int .i64 (fn : Int), int .i64 (ln : Int), slice A m c]).toArray]) Tryz.func29 rfl Tryz.ntmps29 (by simp) ?_
 refine qC [0, 1] ?_
 iterate 2 refine gx ?_
 refine qe (fun g1 hg1 => ?_)
 iterate 7 refine gx ?_
 refine qL (qA rfl) rfl enters49 rfl rfl (v := .tuple #[.agg ([int .i64 (fn : Int), int .i64 (ln : Int)]).toArray, .bool true]) (fun w hs => source1 t (fn : Int) (ln : Int) A m c w) ?_
 iterate 3 refine gx ?_
 refine qZ (fun g2 hg2 => ?_)
 iterate 4 refine gx ?_
 refine qC [0, 3, 4, 5, 6] ?_
 iterate 5 refine gx ?_
 refine qd rfl ?_
 iterate 9 refine gx ?_
 refine qB (qA rfl) rfl (qQ rfl rfl rfl (r := ((fn : Int) + (ln : Int))) (w64 (by omega) (by omega))) ?_
 refine qB (qA rfl) rfl (zH rfl Tryz.underlying22 size5 rfl (bnd.at_ (l := fn) rfl (by omega)) (bnd.at_ (l := (fn + ln)) rfl (by omega)) (by omega) (by omega) rfl (ln := ln) (cp := (co - fn)) (by omega) (by omega)) ?_
 iterate 5 refine gx ?_
 exact qK rfl rfl (fun w hs => ⟨rfl, ((hs.drop (by assumption)).drop (by assumption))⟩)
theorem content2_c (Ao : Option Addr) (mo co : Nat) (hmo : mo ≤ co) (hco : co ≤ 9223372036854775807) (t f l : Int) (A : Option Addr) (m c : Nat) (w : World) : Calls Tryz.prog 29 #[.slice Ao mo co, .agg ([int .i64 2, int .i64 t, int .i64 f, int .i64 l, slice A m c]).toArray] w fun e w' => e = .returned (.slice A m c) ∧ St w [] w' := by
 refine qM (args := [.slice Ao mo co, .agg ([int .i64 2, int .i64 t, int .i64 f, int .i64 l, slice A m c]).toArray]) Tryz.func29 rfl Tryz.ntmps29 (by simp) ?_
 refine qC [0, 1] ?_
 iterate 2 refine gx ?_
 refine qe (fun g1 hg1 => ?_)
 iterate 7 refine gx ?_
 refine qL (qA rfl) rfl enters49 rfl rfl (v := .tuple #[.agg ([int .i64 0, int .i64 0]).toArray, .bool false]) (fun w hs => source2 t f l A m c w) ?_
 iterate 3 refine gx ?_
 refine qZ (fun g2 hg2 => ?_)
 iterate 4 refine gx ?_
 refine qC [0, 3, 4, 5, 6] ?_
 iterate 5 refine gx ?_
 refine qa rfl ?_
 iterate 10 refine gx ?_
 exact qK rfl rfl (fun w hs => ⟨rfl, ((hs.drop (by assumption)).drop (by assumption))⟩)
theorem content_c (Ao : Option Addr) (mo co : Nat) (hmo : mo ≤ co) (hco : co ≤ 9223372036854775807) (o n : Int) (Cs : List CV) (i : Nat) (x : CV) (hv : ValidC o n Cs) (hx : Cs[i]? = some x) (ho : o = mo) (w : World) : Calls Tryz.prog 29 #[.slice Ao mo co, .agg ([int .i64 x.k, int .i64 x.t, int .i64 x.f, int .i64 x.l, slice x.A x.m x.c]).toArray] w fun e w' => e = .returned (contV Ao co x) ∧ St w [] w' := by
 unfold contV
 rcases vkinds hv hx with h | h
 ·rw [if_pos h.1]
  obtain ⟨k, t, f, l, A, m, c, D⟩ := x
  dsimp only at h ⊢
  obtain ⟨rfl, h2, h3, h4, h5⟩ := h
  obtain ⟨fn, rfl⟩ : ∃ fn : Nat, f = fn := ⟨f.toNat, by omega⟩
  obtain ⟨ln, rfl⟩ : ∃ ln : Nat, l = ln := ⟨l.toNat, by omega⟩
  simp only [Int.toNat_natCast]
  exact content1_c Ao mo co hmo hco t fn ln A m c (by omega) (by omega) w
 ·rw [if_neg (by omega)]
  obtain ⟨k, t, f, l, A, m, c, D⟩ := x
  dsimp only at h ⊢
  obtain ⟨rfl, h2⟩ := h
  exact content2_c Ao mo co hmo hco t f l A m c w
/-
 The code of layer 8: Apply.
-/
theorem enters28 : Enters Tryz.prog 28 := ⟨_, Tryz.func28, by kernel_rfl, by kernel_rfl⟩
theorem enters29 : Enters Tryz.prog 29 := ⟨_, Tryz.func29, by kernel_rfl, by kernel_rfl⟩
theorem apply8_yes (B : List Int) (Ao : Option Addr) (mo co : Nat) (hmo : mo ≤ co) (hco : co ≤ 9223372036854775807) (o n : Int) (H1 H2 : List Int) (hH1 : H1.length = 32) (hH2 : H2.length = 32) (A : Option Addr) (m c : Nat) (Cs : List CV) (hmm : m ≤ 1000000000) (hN : NumsC Cs) (w : World) (hC : SrcC w A m Cs) (hD : DatC w Cs) (hsB : Src w Ao mo .u8 B) (bo : -9223372036854775808 ≤ o ∧ o ≤ 9223372036854775807) (bn : -9223372036854775808 ≤ n ∧ n ≤ 9223372036854775807) (hft : o = (mo : Int) ∧ (faultI o n Cs).1 = 0) (hn3 : n ≤ 3000) : Calls Tryz.prog 11 #[.slice Ao mo co, .agg (dV o n H1 H2 (slice A m c)).toArray] w fun e w' => ∃ g, e = .returned (.slice (some ⟨g, 0, none⟩) n.toNat n.toNat) ∧ w.heap.size ≤ g ∧ St w [⟨g, 5, (newB B Cs n).map (int .u8), n.toNat⟩] w' := by
 have hVC : ValidC o n Cs := validC hft.2
 have ho := hft.1
 have hlen := hVC.len
 unfold okLen at hlen
 refine qM (args := [.slice Ao mo co, .agg (dV o n H1 H2 (slice A m c)).toArray]) Tryz.func11 rfl Tryz.ntmps11 (by simp) ?_
 refine qC [0, 1] ?_
 iterate 2 refine gx ?_
 refine qu (qA rfl) rfl rfl rfl (cs := dV o n H1 H2 (slice A m c)) (by simp [Value.cells]) (tot := 67) (by simp [hH1, hH2]) (fun g1 hg1 => ?_)
 iterate 8 refine gx ?_
 refine qL (qA rfl) rfl enters28 rfl rfl (v := .bool true) (fun w hs => (fits8_c Ao mo co hco hmo o n H1 H2 hH1 hH2 A m c Cs hmm hN w (hC.at_ hs (fun b hb => (qD (by show g1 ≠ b; omega) qE))) (hD.at_ hs (fun b hb => (qD (by show g1 ≠ b; omega) qE))) bo bn).mono fun e w' h => by rw [decide_eq_true (p := o = (mo : Int) ∧ (faultI o n Cs).1 = 0) hft] at h; exact h) ?_
 iterate 3 refine gx ?_
 refine qa rfl ?_
 iterate 6 refine gx ?_
 refine TL.makeSlice1 (qA rfl) rfl rfl Tryz.underlying22 mk5 rfl rfl rfl (ln := ((n).toNat)) (cp := ((n).toNat)) (by omega) (by omega) (by omega) (by omega) (by omega) (fun g2 hg2 => ?_)
 rw [show List.replicate ((n).toNat) (.int .u8 0) = (List.replicate ((n).toNat) 0).map (int .u8) from (List.map_replicate ..).symm]
 iterate 3 refine gx ?_
 refine qC [0, 3, 4, 5] ?_
 iterate 10 refine gx ?_
 refine qm (ι := Nat × List Int) (fun x0 => [(0, .slice Ao mo co), (5, .slice (some ⟨g2, 0, none⟩) ((n).toNat) ((n).toNat)), (16, .slice A m c), (17, .int .i64 (m : Int)), (18, .int .i64 (x0.1 : Int))]) (fun x0 => [⟨g2, 5, x0.2.map (int .u8), n.toNat⟩, ⟨g1, 26, dV o n H1 H2 (slice A m c), 67⟩]) (fun x0 => m - x0.1) (fun x0 => x0.1 ≤ m ∧ putI B Cs n x0.1 x0.2) (0, List.replicate n.toNat 0) ⟨Nat.zero_le _, putI.zero B Cs n⟩ (qR (i := 0) rfl rfl (by first | omega | (dsimp only; omega) | rfl) (by first | omega | (dsimp only; omega) | rfl) (qR (i := 5) rfl rfl (by first | omega | (dsimp only; omega) | rfl) (by first | omega | (dsimp only; omega) | rfl) (qR (i := 16) rfl rfl (by first | omega | (dsimp only; omega) | rfl) (by first | omega | (dsimp only; omega) | rfl) (qF (i := 17) rfl (by first | omega | rfl) (qF (i := 18) rfl rfl (qO)))))) (fun w h => h) (fun x0 hC0 => ?_)
 obtain ⟨i, L0⟩ := x0
 obtain ⟨hC0, hpt⟩ := hC0
 dsimp only at hC0 hpt ⊢
 have hL0 := hpt.1
 iterate 6 refine gx ?_
 refine qP rfl (fun hq0 => ?_) (fun hq0 => ?_)
 ·obtain ⟨x, hx⟩ := hC.get (i := i) (by omega)
  obtain ⟨b, off, hAe, hb, hrw⟩ := hC.some_ (i := i) (by omega)
  subst hAe
  have hnx := hN i x hx
  unfold NumC at hnx
  have hox := hVC.tidy.1 _ (List.mem_map_of_mem (f := tg) (List.mem_of_getElem? hx))
  unfold okT at hox
  have htx : (tg x).1 = x.t := rfl
  iterate 6 refine gx ?_
  refine qB (qA rfl) rfl (qb rfl Tryz.underlying24 size54 rfl rfl (i := i) (by omega) (by omega) (off' := (off + 5 * i)) (by omega)) ?_
  refine qB (qA rfl) rfl (qi rfl agg54 size54 rfl rfl (Row.old (fun jj u h => hrw i x hx jj u h) hb (qD (by show g2 ≠ b; omega) (qD (by show g1 ≠ b; omega) qE)))) ?_
  refine qZ (fun g3 hg3 => ?_)
  iterate 3 refine gx ?_
  refine qC [0, 5, 7, 16, 17, 18] ?_
  refine TC.heap (H' := [⟨g3, 54, [int .i64 x.k, int .i64 x.t, int .i64 x.f, int .i64 x.l, slice x.A x.m x.c], 5⟩, ⟨g1, 26, [int .i64 o, int .i64 n] ++ (H1.map (int .u8) ++ (H2.map (int .u8) ++ ([slice (some ⟨b, off, none⟩) m c]))), 67⟩, ⟨g2, 5, L0.map (int .u8), n.toNat⟩]) (fun w h => h.perm (perm_pick (p := [0, 2, 1]) (by kernel_rfl) rfl)) ?_
  refine TC.heap (H' := [⟨g3, 54, [int .i64 x.k, int .i64 x.t, int .i64 x.f, int .i64 x.l, slice x.A x.m x.c], 5⟩, ⟨g1, 26, [int .i64 o, int .i64 n] ++ (H1.map (int .u8) ++ (H2.map (int .u8) ++ ([slice (some ⟨b, off, none⟩) m c]))), 67⟩] ++ ([⟨g2, 5, L0.map (int .u8), n.toNat⟩])) (fun w h => h) ?_
  refine TC.mixB (HB := [Ent.mk g3 54 ([int .i64 x.k, int .i64 x.t, int .i64 x.f, int .i64 x.l, slice x.A x.m x.c]) 5, Ent.mk g1 26 ([int .i64 o, int .i64 n] ++ (H1.map (int .u8) ++ (H2.map (int .u8) ++ ([slice (some ⟨b, off, none⟩) m c])))) 67]) (H := [Ent.mk g2 5 (L0.map (int .u8)) n.toNat]) (by kernel_rfl) [0, 0, 0, 0, 0, 0, 3, 3] [0, 1, 2, 3, 4, 5, 6, 7] (by kernel_rfl) ?_
  refine qx (qA rfl) rfl (fun _ => qv rfl rfl) ?_
  refine qx (qA rfl) rfl (fun _ => Gets.fieldAddr rfl Tryz.underlying54 rfl size3 rfl (off' := 1) (by first | rfl | omega)) ?_
  refine TP.stay (qA rfl) rfl (fun H' => qN rfl agg3 rfl (qW (i := 0) (ent := ⟨g3, 54, [int .i64 x.k, int .i64 x.t, int .i64 x.f, int .i64 x.l, slice x.A x.m x.c], 5⟩) (off := 1) rfl rfl (by exact rfl))) ?_
  refine qx (qA rfl) rfl (fun _ => zH rfl Tryz.underlying22 size5 rfl (bnd.at_ (l := ((x.t).toNat)) rfl (by omega)) bnd.dflt (by omega) (by omega) (A' := some ⟨g2, ((x.t).toNat), none⟩) (cut_is (by omega) (by omega)) (ln := ((n).toNat - (x.t).toNat)) (cp := ((n).toNat - (x.t).toNat)) (by omega) (by omega)) ?_
  refine qx (qA rfl) rfl (fun _ => qv rfl rfl) ?_
  refine TP.stay (qA rfl) rfl (fun H' => qi rfl agg54 size54 rfl (vs := [int .i64 x.k, int .i64 x.t, int .i64 x.f, int .i64 x.l, slice x.A x.m x.c]) (by simp []) (qX (i := 0) (ent := ⟨g3, 54, [int .i64 x.k, int .i64 x.t, int .i64 x.f, int .i64 x.l, slice x.A x.m x.c], 5⟩) rfl rfl rfl)) ?_
  refine TP.call (ι := Unit) (V := fun _ => contV Ao co x) (R := fun _ => True) (H' := fun _ => [⟨g2, 5, L0.map (int .u8), n.toNat⟩]) (qA rfl) rfl enters29 rfl rfl (fun w hs => (content_c Ao mo co hmo hco o n Cs i x hVC hx ho w).mono fun e w' ⟨he, hw⟩ => ⟨(), he, trivial, hs.call' hw⟩) (fun _ _ => ?_)
  obtain ⟨Ac, mc, cc, hcv, hcsrc, hcm, hcc, hcl⟩ := contV_src (Ao := Ao) (co := co) hVC hx hsB ho hmo hco (hD i x hx).1 (hN i x hx)
  rw [hcv]
  have hnew : (L0.take x.t.toNat ++ segP B (valC x) ++ L0.drop (x.t.toNat + (segP B (valC x)).length)).length = n.toNat := (putI.next hpt hVC hx (hD i x hx).1.1.symm (by rw [hsB.1]; exact ho.symm)).1
  have hsl : (segP B (valC x)).length = mc := hcsrc.1
  refine TP.copyP (qA rfl) rfl rfl Tryz.underlying22 size5 rfl rfl (i := 2) (ent := ⟨g2, 5, L0.map (int .u8), n.toNat⟩) rfl rfl (by simp only [List.length_map]; omega) (fun w hs => hcsrc.at_ hs (fun b hb => (qU (qD (by show g3 ≠ b; omega) (qD (by show g1 ≠ b; omega) qE)) (qD (by show g2 ≠ b; omega) qE)))) (c := mc) (by omega) (cs' := (L0.take x.t.toNat ++ segP B (valC x) ++ L0.drop (x.t.toNat + (segP B (valC x)).length)).map (int .u8)) (by show (L0.map (int .u8)).take x.t.toNat ++ ((segP B (valC x)).take mc).map (int .u8) ++ (L0.map (int .u8)).drop (x.t.toNat + mc) = _; rw [List.take_of_length_le (l := segP B (valC x)) (by omega), ← List.map_take, ← List.map_drop, ← List.map_append, ← List.map_append, hsl]) (H' := [⟨g2, 5, (L0.take x.t.toNat ++ segP B (valC x) ++ L0.drop (x.t.toNat + (segP B (valC x)).length)).map (int .u8), n.toNat⟩]) rfl ?_
  refine TP.nil ?_
  refine TE.heap (H' := [⟨g3, 54, [int .i64 x.k, int .i64 x.t, int .i64 x.f, int .i64 x.l, slice x.A x.m x.c], 5⟩, ⟨g1, 26, [int .i64 o, int .i64 n] ++ (H1.map (int .u8) ++ (H2.map (int .u8) ++ ([slice (some ⟨b, off, none⟩) m c]))), 67⟩, ⟨g2, 5, (L0.take x.t.toNat ++ segP B (valC x) ++ L0.drop (x.t.toNat + (segP B (valC x)).length)).map (int .u8), n.toNat⟩]) (fun w h => h) ?_
  iterate 2 refine gx ?_
  refine qC [0, 5, 16, 17, 18] ?_
  refine gx ?_
  refine qB (qA rfl) rfl (qQ rfl rfl rfl (r := ((i : Int) + 1)) (w64 (by omega) (by omega))) ?_
  iterate 2 refine gx ?_
  exact qc (i + 1, (L0.take x.t.toNat ++ segP B (valC x) ++ L0.drop (x.t.toNat + (segP B (valC x)).length))) (by show m - (i + 1) < m - i; omega) ⟨by show i + 1 ≤ m; omega, putI.next hpt hVC hx (hD i x hx).1.1.symm (by rw [hsB.1]; exact ho.symm)⟩ (qR (i := 0) rfl rfl (by first | omega | (dsimp only; omega) | rfl) (by first | omega | (dsimp only; omega) | rfl) (qR (i := 5) rfl rfl (by first | omega | (dsimp only; omega) | rfl) (by first | omega | (dsimp only; omega) | rfl) (qR (i := 16) rfl (by first | rfl | (congr 2; omega)) (by first | omega | (dsimp only; omega) | rfl) (by first | omega | (dsimp only; omega) | rfl) (qF (i := 17) rfl (by first | omega | rfl) (qF (i := 18) rfl rfl (qO)))))) (fun w h => ((h.erase (i := 0) rfl (by assumption)).perm (perm_pick (p := [1, 0]) (by kernel_rfl) rfl)))
 ·iterate 12 refine gx ?_
  exact qK rfl rfl (fun w hs => ⟨g2, rfl, by assumption, by rw [← putI.done hpt hVC (by have := hC.1; omega)]; exact (hs.erase (i := 1) rfl (by assumption))⟩)
/-
 The code of layer 8: Byte.
-/
/-
 The code of layer 8: contents.
-/
theorem enters26 : Enters Tryz.prog 26 := ⟨_, Tryz.func26, by kernel_rfl, by kernel_rfl⟩
/-
 The code of layer 8: Verify.
-/
instance : AgY Tryz.prog 40 := ⟨agg40⟩
/-
 The chapter's example.
-/
theorem enters11 : Enters Tryz.prog 11 := ⟨_, Tryz.func11, by kernel_rfl, by kernel_rfl⟩
theorem enters22 : Enters Tryz.prog 22 := ⟨_, Tryz.func22, by kernel_rfl, by kernel_rfl⟩
def exO : List Int := [97, 98, 99, 100, 101, 102]
def exN : List Int := [120, 99, 100, 101, 102, 97, 98]
def exX : List Int := [120]
theorem exO_bytes : Bytes exO := by intro x hx; unfold exO at hx; simp only [List.mem_cons, List.not_mem_nil, or_false] at hx; omega
theorem exN_bytes : Bytes exN := by intro x hx; unfold exN at hx; simp only [List.mem_cons, List.not_mem_nil, or_false] at hx; omega
theorem exX_bytes : Bytes exX := by intro x hx; unfold exX at hx; simp only [List.mem_cons, List.not_mem_nil, or_false] at hx; omega
def ex8 (g : Nat) : List CV := [⟨2, 0, 0, 0, some ⟨g, 0, none⟩, 1, 1, exX⟩, ⟨1, 1, 2, 4, none, 0, 0, []⟩, ⟨1, 5, 0, 2, none, 0, 0, []⟩]
theorem ex8_cmds (g : Nat) : cmdsL exO exN 2 = (ex8 g).map valC := by
 show _ = [(2, 0, 0, 0, [120]), (1, 1, 2, 4, []), (1, 5, 0, 2, [])]
 decide
theorem ex8_num (g : Nat) : NumsC (ex8 g) := fun i x hx => by
 match i, hx with
 | 0, hx => simp [ex8] at hx; subst hx; unfold NumC; dsimp only; omega
 | 1, hx => simp [ex8] at hx; subst hx; unfold NumC; dsimp only; omega
 | 2, hx => simp [ex8] at hx; subst hx; unfold NumC; dsimp only; omega
 | i + 3, hx => simp [ex8] at hx
theorem ex8_dat {w : World} {g : Nat} (h : Src w (some ⟨g, 0, none⟩) 1 .u8 exX) : DatC w (ex8 g) := fun i x hx => by
 match i, hx with
 | 0, hx => simp [ex8] at hx; subst hx; exact ⟨h, exX_bytes⟩
 | 1, hx => simp [ex8] at hx; subst hx; exact ⟨src_no, bytes_no⟩
 | 2, hx => simp [ex8] at hx; subst hx; exact ⟨src_no, bytes_no⟩
 | i + 3, hx => simp [ex8] at hx
theorem St.grow {w0 w1 w : World} {H : List Ent} (h1 : St w0 H w1) (h : St w1 [] w) : St w1 H w :=
 ⟨h.os, h.tape, h.output, h.size, fun e he => (h1.has e he).of_block (h.old _ (h1.has e he).lt (by simp)), fun b hb _ => h.old b hb (by simp), h1.apart⟩
theorem alive8_c (w : World) (hMX : MaxC w) (h1 : 2 < w.heap.size) (hIV : RowI w 0 0 8 .u32 IV) (hK : RowI w 2 0 64 .u32 KT) : Calls Tryz.prog 10 #[] w fun e w' => e = .returned (.bool true) ∧ St w [] w' := by
 refine qM (args := []) Tryz.func10 rfl Tryz.ntmps10 (by simp) ?_
 refine qC [] ?_
 iterate 7 refine gx ?_
 refine zK (qA rfl) rfl rfl Tryz.underlying22 size5 zero5 rfl (by decide) (by decide) (cells := #[.int .u8 97, .int .u8 98, .int .u8 99, .int .u8 100, .int .u8 101, .int .u8 102]) (tot := 6) (by kernel_rfl) (cs := [.int .u8 97, .int .u8 98, .int .u8 99, .int .u8 100, .int .u8 101, .int .u8 102]) rfl rfl (fun g1 hg1 => ?_)
 refine TL.mark2 (qA rfl) rfl rfl Tryz.underlying22 Tryz.underlying5 rfl (i := 0) (ent := ⟨g1, 5, [int .u8 97, int .u8 98, int .u8 99, int .u8 100, int .u8 101, int .u8 102], 6⟩) rfl rfl (W := exO) rfl (by omega) (fun wm1 hap1 hw1 hr1 hgw1 => ?_)
 change St _ ([]) wm1 at hw1
 refine TL.heap (H' := []) (fun w h => hw1.grow h) ?_
 have hwB1 : St w [] wm1 := zJ ([]) (by rw [List.append_nil]; exact hw1) qS
 have hwz1 := hw1.size
 have hwy1 := hwB1.size
 have hsL1 : Src wm1 (some ⟨g1, 0, none⟩) exO.length .u8 exO := ⟨rfl, .inr ⟨g1, 0, rfl, hgw1, hr1⟩⟩
 have hnT1 : ∀ e ∈ ([] : List Ent), e.g ≠ g1 := hap1
 have hg1l : g1 < wm1.heap.size := hgw1
 refine zK (qA rfl) rfl rfl Tryz.underlying22 size5 zero5 rfl (by decide) (by decide) (cells := #[.int .u8 120, .int .u8 99, .int .u8 100, .int .u8 101, .int .u8 102, .int .u8 97, .int .u8 98]) (tot := 7) (by kernel_rfl) (cs := [.int .u8 120, .int .u8 99, .int .u8 100, .int .u8 101, .int .u8 102, .int .u8 97, .int .u8 98]) rfl rfl (fun g2 hg2 => ?_)
 refine TL.mark2 (qA rfl) rfl rfl Tryz.underlying22 Tryz.underlying5 rfl (i := 0) (ent := ⟨g2, 5, [int .u8 120, int .u8 99, int .u8 100, int .u8 101, int .u8 102, int .u8 97, int .u8 98], 7⟩) rfl rfl (W := exN) rfl (by omega) (fun wm2 hap2 hw2 hr2 hgw2 => ?_)
 change St _ ([]) wm2 at hw2
 refine TL.heap (H' := []) (fun w h => hw2.grow h) ?_
 have hwB2 : St w [] wm2 := zJ ([]) (by rw [List.append_nil]; exact (hwB1.rebase hw2 qS)) qS
 have hwz2 := hw2.size
 have hwy2 := hwB2.size
 have hsL2 : Src wm2 (some ⟨g2, 0, none⟩) exN.length .u8 exN := ⟨rfl, .inr ⟨g2, 0, rfl, hgw2, hr2⟩⟩
 have hsL1 := hsL1.at_ hw2 (by simp)
 have hnT2 : ∀ e ∈ ([] : List Ent), e.g ≠ g2 := hap2
 have hg2l : g2 < wm2.heap.size := hgw2
 refine qg (ι := (Option Addr × Nat) × (List CV × List Ent)) (V := fun y => .agg (dV 6 7 (shaM exO) (shaM exN) (slice y.1.1 3 y.1.2)).toArray) (R := fun y => (3 ≤ y.1.2 ∧ y.1.2 ≤ 9223372036854775807) ∧ OwnD wm2.heap.size y.1.1 3 y.2.1 y.2.2 ∧ (y.2.1.map valC = cmdsL exO exN 2 ∧ ∀ x ∈ y.2.1, x.m = x.B.length) ∧ y.2.1.length = 3) (H' := fun y => [] ++ y.2.2) (qA rfl) rfl enters22 rfl rfl (fun w hs => ?hmk) (fun y hR => ?_)
 case hmk =>
  have hs0 := hs; have hs := hwB2.rebase hs0 qS
  refine (make8_c exO exN (some ⟨g1, 0, none⟩) (some ⟨g2, 0, none⟩) 6 6 7 7 2 (by omega) (by omega) (by omega) (by omega) (by omega) (by omega) (by omega) exO_bytes exN_bytes w (hsL1.at_ hs0 (fun b hb => qE)) (hsL2.at_ hs0 (fun b hb => qE)) (hMX.at_ hs qE) (Nat.lt_of_lt_of_le h1 hs.size) (hIV.keepH hs (by omega) qE) (hK.keepH hs h1 qE)).mono fun e w' ⟨A', c', nL, Fs, He, he, hc, ho, hv, hl, hw⟩ => ?_
  obtain rfl : nL = 3 := by have h1 := congrArg List.length hv.1; rw [ex8_cmds 0, List.length_map] at h1; rw [← hl, h1]; rfl
  exact ⟨((A', c'), (Fs, He)), he, ⟨hc, ho.mono hs0.size, hv, hl⟩, st_call hs0 hw ho.1⟩
 obtain ⟨⟨As, cs⟩, Fs, Hw⟩ := y
 obtain ⟨hcs, hos, hFv, hFl⟩ := hR
 dsimp only at hcs hos hFv hFl ⊢
 have hFw : Fresh w Hw := fun e he => Nat.le_trans hwy2 (hos.1 e he)
 obtain ⟨hval, hnew⟩ := cmdsL_valid hFv.1 hFv.2 (by decide) (by decide)
 have hvi : (faultI 6 7 Fs).1 = 0 := by have h9 : faultI 6 7 Fs = (0, 0) := hval; rw [h9]
 have hnew : newB exO Fs 7 = exN := hnew
 have hsame : ∀ g, sameC Fs (ex8 g) := fun g => by unfold sameC; rw [hFv.1, ex8_cmds g]
 refine TL.alloc (qA rfl) rfl rfl zero26 (cs := [int .i64 0, int .i64 0] ++ ((List.replicate 64 0).map (int .u8) ++ ([slice none 0 0]))) rfl (tot := 67) (by simp) (fun g3 hg3 => ?_)
 refine zI (qA rfl) rfl rfl size26 rfl (vs := dV 6 7 (shaM exO) (shaM exN) (slice As 3 cs)) rfl (by simp [(shaM_len exO), (shaM_len exN)]) (zB (by simp [Value.oneCell']) (zB qw (zB qw (by simp [Value.oneCell'])))) (i := 0) (ent := ⟨g3, 26, [int .i64 0, int .i64 0] ++ ((List.replicate 64 0).map (int .u8) ++ ([slice none 0 0])), 67⟩) rfl rfl (by simp []) (H' := [⟨g3, 26, dV 6 7 (shaM exO) (shaM exN) (slice As 3 cs), 67⟩] ++ Hw) rfl ?_
 iterate 4 refine gx ?_
 refine zK (qA rfl) rfl rfl Tryz.underlying22 size5 zero5 rfl (by decide) (by decide) (cells := #[.int .u8 120]) (tot := 1) (by kernel_rfl) (cs := [.int .u8 120]) rfl rfl (fun g4 hg4 => ?_)
 refine TL.mark2 (qA rfl) rfl rfl Tryz.underlying22 Tryz.underlying5 rfl (i := 0) (ent := ⟨g4, 5, [int .u8 120], 1⟩) rfl rfl (W := exX) rfl (by omega) (fun wm3 hap3 hw3 hr3 hgw3 => ?_)
 change St _ ([Ent.mk g3 26 (dV 6 7 (shaM exO) (shaM exN) (slice As 3 cs)) 67] ++ Hw) wm3 at hw3
 refine TL.heap (H' := [Ent.mk g3 26 (dV 6 7 (shaM exO) (shaM exN) (slice As 3 cs)) 67] ++ Hw) (fun w h => hw3.grow h) ?_
 have hwB3 : St w [] wm3 := zJ ([Ent.mk g3 26 (dV 6 7 (shaM exO) (shaM exN) (slice As 3 cs)) 67] ++ Hw) (by rw [List.append_nil]; exact (hwB2.rebase hw3 (qp (qG (by first | assumption | (dsimp only; omega)) qS) hFw))) (qp (qG (by first | assumption | (dsimp only; omega)) qS) hFw)
 have hwz3 := hw3.size
 have hwy3 := hwB3.size
 have hsL3 : Src wm3 (some ⟨g4, 0, none⟩) exX.length .u8 exX := ⟨rfl, .inr ⟨g4, 0, rfl, hgw3, hr3⟩⟩
 have hnT3 : ∀ e ∈ ([Ent.mk g3 26 (dV 6 7 (shaM exO) (shaM exN) (slice As 3 cs)) 67] ++ Hw : List Ent), e.g ≠ g4 := hap3
 have hg3l : g4 < wm3.heap.size := hgw3
 refine qB (qA rfl) rfl (qr rfl (vs := [(0, int .i64 2), (4, slice (some ⟨g4, 0, none⟩) 1 1)]) rfl (fun w => by first | rfl | kernel_rfl) (v := .agg ([int .i64 2, int .i64 0, int .i64 0, int .i64 0, slice (some ⟨g4, 0, none⟩) 1 1]).toArray)) ?_
 refine qB (qA rfl) rfl (qr rfl (vs := [(0, int .i64 1), (1, int .i64 1), (2, int .i64 2), (3, int .i64 4)]) rfl (fun w => by first | rfl | kernel_rfl) (v := .agg ([int .i64 1, int .i64 1, int .i64 2, int .i64 4, slice none 0 0]).toArray)) ?_
 refine qB (qA rfl) rfl (qr rfl (vs := [(0, int .i64 1), (1, int .i64 5), (3, int .i64 2)]) rfl (fun w => by first | rfl | kernel_rfl) (v := .agg ([int .i64 1, int .i64 5, int .i64 0, int .i64 2, slice none 0 0]).toArray)) ?_
 refine zK (qA rfl) rfl rfl Tryz.underlying24 size54 zero54 rfl (by decide) (by decide) (cells := #[.int .i64 2, .int .i64 0, .int .i64 0, .int .i64 0, .slice (some ⟨g4, 0, none⟩) 1 1, .int .i64 1, .int .i64 1, .int .i64 2, .int .i64 4, .slice none 0 0, .int .i64 1, .int .i64 5, .int .i64 0, .int .i64 2, .slice none 0 0]) (tot := 15) (by kernel_rfl) (cs := [.int .i64 2, .int .i64 0, .int .i64 0, .int .i64 0, .slice (some ⟨g4, 0, none⟩) 1 1, .int .i64 1, .int .i64 1, .int .i64 2, .int .i64 4, .slice none 0 0, .int .i64 1, .int .i64 5, .int .i64 0, .int .i64 2, .slice none 0 0]) rfl rfl (fun g5 hg5 => ?_)
 iterate 3 refine gx ?_
 refine qC [0, 1, 2] ?_
 iterate 3 refine gx ?_
 refine qB (qA rfl) rfl (qN rfl agg24 rfl (qW (i := 1) (ent := ⟨g3, 26, dV 6 7 (shaM exO) (shaM exN) (slice As 3 cs), 67⟩) (off := 66) rfl rfl (by exact app_right (a := 2) (i := 64) (rfl) (app_right (a := 32) (i := 32) (ints_len (shaM_len exO)) (app_right (a := 32) (i := 0) (ints_len (shaM_len exN)) (rfl)))))) ?_
 refine gx ?_
 refine qL (qA rfl) rfl enters27 rfl rfl (v := .bool true) (fun w hs => (rall_c As (some ⟨g5, 0, none⟩) 3 cs 3 3 Fs (ex8 g4) (by omega) (by omega) hos.num w (hos.src (fun e he => hs.has e (by simp [he]))) (lies_srcC (hs.has (⟨g5, 54, [int .i64 2, int .i64 0, int .i64 0, int .i64 0, slice (some ⟨g4, 0, none⟩) 1 1, int .i64 1, int .i64 1, int .i64 2, int .i64 4, slice none 0 0, int .i64 1, int .i64 5, int .i64 0, int .i64 2, slice none 0 0], 15⟩) (List.mem_of_getElem? (i := 0) rfl)) rfl rfl) (hos.dat (fun e he => hs.has e (by simp [he]))) (ex8_dat ⟨rfl, .inr ⟨g4, 0, rfl, Nat.lt_of_lt_of_le hgw3 hs.size, hr3.keepH hs hgw3 (List.forall_mem_cons.2 ⟨by dsimp only; omega, hnT3⟩)⟩⟩)).mono fun e w' h => by rw [decide_eq_true (p := sameC Fs (ex8 g4)) (hsame _)] at h; exact h) ?_
 iterate 3 refine gx ?_
 refine qB (qI rfl rfl rfl) rfl (qV (qj rfl rfl rfl) rfl) ?_
 iterate 4 refine gx ?_
 refine qB (qI rfl rfl rfl) rfl (qV (qj rfl rfl rfl) rfl) ?_
 iterate 2 refine gx ?_
 refine zK (qI rfl rfl rfl) rfl rfl Tryz.underlying22 size5 zero5 rfl (by decide) (by decide) (cells := #[.int .u8 97, .int .u8 98, .int .u8 99, .int .u8 100, .int .u8 101, .int .u8 102]) (tot := 6) (by kernel_rfl) (cs := [.int .u8 97, .int .u8 98, .int .u8 99, .int .u8 100, .int .u8 101, .int .u8 102]) rfl rfl (fun g6 hg6 => ?_)
 refine TL.mark2 (qI rfl rfl rfl) rfl rfl Tryz.underlying22 Tryz.underlying5 rfl (i := 0) (ent := ⟨g6, 5, [int .u8 97, int .u8 98, int .u8 99, int .u8 100, int .u8 101, int .u8 102], 6⟩) rfl rfl (W := exO) rfl (by omega) (fun wm4 hap4 hw4 hr4 hgw4 => ?_)
 change St _ ([Ent.mk g5 54 ([int .i64 2, int .i64 0, int .i64 0, int .i64 0, slice (some ⟨g4, 0, none⟩) 1 1, int .i64 1, int .i64 1, int .i64 2, int .i64 4, slice none 0 0, int .i64 1, int .i64 5, int .i64 0, int .i64 2, slice none 0 0]) 15, Ent.mk g3 26 (dV 6 7 (shaM exO) (shaM exN) (slice As 3 cs)) 67] ++ Hw) wm4 at hw4
 refine TL.heap (H' := [Ent.mk g5 54 ([int .i64 2, int .i64 0, int .i64 0, int .i64 0, slice (some ⟨g4, 0, none⟩) 1 1, int .i64 1, int .i64 1, int .i64 2, int .i64 4, slice none 0 0, int .i64 1, int .i64 5, int .i64 0, int .i64 2, slice none 0 0]) 15, Ent.mk g3 26 (dV 6 7 (shaM exO) (shaM exN) (slice As 3 cs)) 67] ++ Hw) (fun w h => hw4.grow h) ?_
 have hwB4 : St w [] wm4 := zJ ([Ent.mk g5 54 ([int .i64 2, int .i64 0, int .i64 0, int .i64 0, slice (some ⟨g4, 0, none⟩) 1 1, int .i64 1, int .i64 1, int .i64 2, int .i64 4, slice none 0 0, int .i64 1, int .i64 5, int .i64 0, int .i64 2, slice none 0 0]) 15, Ent.mk g3 26 (dV 6 7 (shaM exO) (shaM exN) (slice As 3 cs)) 67] ++ Hw) (by rw [List.append_nil]; exact (hwB3.rebase hw4 (qp (qG (by first | assumption | (dsimp only; omega)) (qG (by first | assumption | (dsimp only; omega)) qS)) hFw))) (qp (qG (by first | assumption | (dsimp only; omega)) (qG (by first | assumption | (dsimp only; omega)) qS)) hFw)
 have hwz4 := hw4.size
 have hwy4 := hwB4.size
 have hsL4 : Src wm4 (some ⟨g6, 0, none⟩) exO.length .u8 exO := ⟨rfl, .inr ⟨g6, 0, rfl, hgw4, hr4⟩⟩
 have hnT4 : ∀ e ∈ ([Ent.mk g5 54 ([int .i64 2, int .i64 0, int .i64 0, int .i64 0, slice (some ⟨g4, 0, none⟩) 1 1, int .i64 1, int .i64 1, int .i64 2, int .i64 4, slice none 0 0, int .i64 1, int .i64 5, int .i64 0, int .i64 2, slice none 0 0]) 15, Ent.mk g3 26 (dV 6 7 (shaM exO) (shaM exN) (slice As 3 cs)) 67] ++ Hw : List Ent), e.g ≠ g6 := hap4
 have hg4l : g6 < wm4.heap.size := hgw4
 refine qB (qI rfl rfl rfl) rfl (qi rfl agg26 size26 rfl (vs := dV 6 7 (shaM exO) (shaM exN) (slice As 3 cs)) (by simp [(shaM_len exO), (shaM_len exN)]) (qX (i := 1) (ent := ⟨g3, 26, dV 6 7 (shaM exO) (shaM exN) (slice As 3 cs), 67⟩) rfl rfl rfl)) ?_
 refine qg (ι := Nat) (V := fun y => .slice (some ⟨y, 0, none⟩) 7 7) (R := fun y => wm4.heap.size ≤ y) (H' := fun y => [Ent.mk g5 54 ([int .i64 2, int .i64 0, int .i64 0, int .i64 0, slice (some ⟨g4, 0, none⟩) 1 1, int .i64 1, int .i64 1, int .i64 2, int .i64 4, slice none 0 0, int .i64 1, int .i64 5, int .i64 0, int .i64 2, slice none 0 0]) 15, Ent.mk g3 26 (dV 6 7 (shaM exO) (shaM exN) (slice As 3 cs)) 67] ++ Hw ++ [Ent.mk y 5 (exN.map (int .u8)) 7]) (qI rfl rfl rfl) rfl enters11 rfl rfl (fun w hs => ?hap) (fun y hR => ?_)
 case hap =>
  have hs0 := hs; have hs := hwB4.rebase hs0 (qp (qG (by first | assumption | (dsimp only; omega)) (qG (by first | assumption | (dsimp only; omega)) qS)) hFw)
  refine (apply8_yes exO (some ⟨g6, 0, none⟩) 6 6 (by omega) (by omega) 6 7 (shaM exO) (shaM exN) (shaM_len exO) (shaM_len exN) As 3 cs Fs (by omega) hos.num w (hos.src (fun e he => hs.has e (by simp [he]))) (hos.dat (fun e he => hs.has e (by simp [he]))) ⟨rfl, .inr ⟨g6, 0, rfl, Nat.lt_of_lt_of_le hgw4 hs0.size, hr4.keepH hs0 hgw4 hnT4⟩⟩ (by omega) (by omega) ⟨rfl, hvi⟩ (by omega)).mono fun e w' ⟨g, he, hg, hw⟩ => ?_
  rw [hnew] at hw
  exact ⟨g, he, Nat.le_trans hs0.size hg, st_call hs0 hw (qG hg qS)⟩
 have hFy : Fresh w [Ent.mk y 5 (exN.map (int .u8)) 7] := qG (by show w.heap.size ≤ y; omega) qS
 refine TL.heap (H' := [Ent.mk g5 54 ([int .i64 2, int .i64 0, int .i64 0, int .i64 0, slice (some ⟨g4, 0, none⟩) 1 1, int .i64 1, int .i64 1, int .i64 2, int .i64 4, slice none 0 0, int .i64 1, int .i64 5, int .i64 0, int .i64 2, slice none 0 0]) 15, Ent.mk g3 26 (dV 6 7 (shaM exO) (shaM exN) (slice As 3 cs)) 67] ++ (Hw ++ [Ent.mk y 5 (exN.map (int .u8)) 7])) (fun w h => by rw [← List.append_assoc]; exact h) ?_
 have hFwy := qp hFw hFy
 refine qB (qI rfl rfl rfl) rfl (Gets.b2s rfl Tryz.underlying22 Tryz.underlying9 Tryz.underlying5 rfl (fun w hs => src_ent (hs.has (Ent.mk y 5 (exN.map (int .u8)) 7) (by simp)) rfl)) ?_
 refine qB (qI rfl rfl rfl) rfl (qV (Gets.bytesEq (C := exN) rfl rfl rfl exN_bytes exN_bytes) rfl) ?_
 iterate 5 refine gx ?_
 exact qK rfl rfl (fun w hs => ⟨rfl, zJ ([Ent.mk g5 54 ([int .i64 2, int .i64 0, int .i64 0, int .i64 0, slice (some ⟨g4, 0, none⟩) 1 1, int .i64 1, int .i64 1, int .i64 2, int .i64 4, slice none 0 0, int .i64 1, int .i64 5, int .i64 0, int .i64 2, slice none 0 0]) 15, Ent.mk g3 26 (dV 6 7 (shaM exO) (shaM exN) (slice As 3 cs)) 67] ++ (Hw ++ [Ent.mk y 5 (exN.map (int .u8)) 7])) (by rw [List.append_nil]; exact hwB4.rebase hs (qp (qG (by first | assumption | (dsimp only; omega)) (qG (by first | assumption | (dsimp only; omega)) qS)) hFwy)) (qp (qG (by first | assumption | (dsimp only; omega)) (qG (by first | assumption | (dsimp only; omega)) qS)) hFwy)⟩)
/-
 PatchVerifies: the walk.
-/
theorem agg38 : (isAgg 38).run Tryz.prog = fun w => .ok false w := isAgg_no Tryz.underlying38 rfl
theorem enters10 : Enters Tryz.prog 10 := ⟨_, Tryz.func10, by kernel_rfl, by kernel_rfl⟩
theorem size38 : (Tryz.prog.info? 38).map (·.size) = some 1 := by kernel_rfl
instance : AgN Tryz.prog 38 := ⟨agg38⟩
instance : Fld Tryz.prog 40 0 0 := ⟨⟨_, _, _, Tryz.underlying40, rfl, size38, rfl⟩⟩
instance : Fld Tryz.prog 40 1 1 := ⟨⟨_, _, _, Tryz.underlying40, rfl, size3, rfl⟩⟩
/-
 slices.Equal of bytes.
-/
theorem eq_succ {A B : List Int} {i : Nat} (h : ∀ j, j < i → A.getD j 0 = B.getD j 0) (h2 : A.getD i 0 = B.getD i 0) : ∀ j, j < i + 1 → A.getD j 0 = B.getD j 0 := fun j hj => by
 by_cases e : j = i
 ·rw [e]; exact h2
 ·exact h j (by omega)
theorem sequal_c (PA PB : List Int) (A A2 : Option Addr) (m c m2 c2 : Nat) (w : World) (hsA : Src w A m .u8 PA) (hsB : Src w A2 m2 .u8 PB) (hmc : m ≤ c) (hmc2 : m2 ≤ c2) (hcm : c ≤ 9223372036854775807) (hcm2 : c2 ≤ 9223372036854775807) : Calls Tryz.prog 12 #[.slice A m c, .slice A2 m2 c2] w fun e w' => e = .returned (.bool (decide (PA = PB))) ∧ St w [] w' := by
 refine qM (args := [.slice A m c, .slice A2 m2 c2]) Tryz.func12 rfl Tryz.ntmps12 (by simp) ?_
 refine qC [0, 1] ?_
 iterate 15 refine gx ?_
 refine qP rfl (fun hq0 => ?_) (fun hq0 => ?_)
 ·iterate 7 refine gx ?_
  exact qK rfl rfl (fun w hs => ⟨by rw [decide_eq_false (fun he => by have l1 := hsA.1; have l2 := hsB.1; have l3 := congrArg List.length he; have l4 := fun j => congrArg (fun z : List Int => z.getD j 0) he; first | omega | exact absurd (l4 i) hq2)], hs⟩)
 ·iterate 10 refine gx ?_
  refine qC [0, 1, 4, 12, 13] ?_
  refine gx ?_
  refine qm (ι := Nat) (fun i => [(0, .slice A m c), (1, .slice A2 m2 c2), (12, .int .i64 (m : Int)), (13, .int .i64 (i : Int))]) (fun i => []) (fun i => m - i) (fun i => i ≤ m ∧ ∀ j, j < i → PA.getD j 0 = PB.getD j 0) 0 ⟨Nat.zero_le _, fun j hj => absurd hj (Nat.not_lt_zero j)⟩ (qR (i := 0) rfl rfl (by first | omega | (dsimp only; omega) | rfl) (by first | omega | (dsimp only; omega) | rfl) (qR (i := 1) rfl rfl (by first | omega | (dsimp only; omega) | rfl) (by first | omega | (dsimp only; omega) | rfl) (qF (i := 12) rfl (by first | omega | rfl) (qF (i := 13) rfl (by first | omega | rfl) (qO))))) (fun w h => h) (fun i hC0 => ?_)
  obtain ⟨hC0, hC1⟩ := hC0
  iterate 6 refine gx ?_
  refine qP rfl (fun hq1 => ?_) (fun hq1 => ?_)
  ·obtain ⟨b, off, hA, hb, hr⟩ := hsA.2.resolve_left (by omega)
   obtain ⟨b2, off2, hA2, hb2, hr2⟩ := hsB.2.resolve_left (by omega)
   subst hA; subst hA2
   iterate 11 refine gx ?_
   refine qt (by kernel_rfl) [0, 0, 0, 1, 0, 0, 0, 1, 0] rfl (by kernel_rfl) ?_
   iterate 2 refine gx ?_
   refine qH (qA rfl) rfl (fun _ => qb rfl Tryz.underlying22 size5 rfl rfl (i := i) (by omega) (by omega) (off' := (off + i)) (by omega)) ?_
   refine qY (qA rfl) rfl (qN rfl agg5 rfl (At.rowI hr (i := i) (by omega) (by omega) hb qE)) ?_
   iterate 2 refine gx ?_
   refine qH (qA rfl) rfl (fun _ => qb rfl Tryz.underlying22 size5 rfl rfl (i := i) (by omega) (by omega) (off' := (off2 + i)) (by omega)) ?_
   refine qY (qA rfl) rfl (qN rfl agg5 rfl (At.rowI hr2 (i := i) (by omega) (by omega) hb2 qE)) ?_
   iterate 3 refine gx ?_
   refine qC [0, 1, 12, 13, 24] ?_
   refine qP rfl (fun hq2 => ?_) (fun hq2 => ?_)
   ·iterate 11 refine gx ?_
    exact qK rfl rfl (fun w hs => ⟨by rw [decide_eq_false (fun he => by have l1 := hsA.1; have l2 := hsB.1; have l3 := congrArg List.length he; have l4 := fun j => congrArg (fun z : List Int => z.getD j 0) he; first | omega | exact absurd (l4 i) hq2)], hs⟩)
   ·iterate 4 refine gx ?_
    refine qB (qA rfl) rfl (qQ rfl rfl rfl (r := ((i : Int) + 1)) (w64 (by omega) (by omega))) ?_
    iterate 2 refine gx ?_
    exact qc (i + 1) (by omega) ⟨by omega, eq_succ hC1 (by omega)⟩ (qR (i := 0) rfl (by first | rfl | (congr 2; omega)) (by first | omega | (dsimp only; omega) | rfl) (by first | omega | (dsimp only; omega) | rfl) (qR (i := 1) rfl (by first | rfl | (congr 2; omega)) (by first | omega | (dsimp only; omega) | rfl) (by first | omega | (dsimp only; omega) | rfl) (qF (i := 12) rfl (by first | omega | rfl) (qF (i := 13) rfl (by first | omega | rfl) (qO))))) (fun w h => h)
  ·iterate 11 refine gx ?_
   exact qK rfl rfl (fun w hs => ⟨by rw [decide_eq_true (list_of_getD (by have := hsA.1; have := hsB.1; omega) (fun j hj => hC1 j (by have := hsA.1; omega)))], hs⟩)
/-
 PatchBytes: the walk.
-/
theorem enters13 : Enters Tryz.prog 13 := ⟨_, Tryz.func13, by kernel_rfl, by kernel_rfl⟩
/-
 PatchApplies: the walk.
-/
theorem enters12 : Enters Tryz.prog 12 := ⟨_, Tryz.func12, by kernel_rfl, by kernel_rfl⟩
/-
 slices.Reverse of commands.
-/
theorem byteI_same {B : List Int} {Es Cs : List CV} (h : sameE Es Cs) (p : Int) : byteI B Es p = byteI B Cs p := by
 have h1 : findI Es p = findI Cs p := by rw [← findI_norm Es, ← findI_norm Cs, h.nrm]
 unfold byteI
 rw [h1]
 have h2 := congrArg (fun l => l[(findI Cs p).toNat]?) (show Es.map keyE = Cs.map keyE from h)
 simp only [List.getElem?_map] at h2
 cases e1 : Es[(findI Cs p).toNat]? with
 | none => cases e2 : Cs[(findI Cs p).toNat]? with
  | none => rfl
  | some y => rw [e1, e2] at h2; simp at h2
 | some x => cases e2 : Cs[(findI Cs p).toNat]? with
  | none => rw [e1, e2] at h2; simp at h2
  | some y =>
   rw [e1, e2] at h2
   simp only [Option.map_some, Option.some.injEq] at h2
   exact atV_norm (congrArg Prod.fst h2) p
theorem newB_same {B : List Int} {Es Cs : List CV} (h : sameE Es Cs) (n : Int) : newB B Es n = newB B Cs n := by
 unfold newB
 exact List.map_congr_left fun i _ => byteI_same h i
def revI (Cs : List CV) (i : Nat) (L : List CV) : Prop := L.length = Cs.length ∧ ∀ k, k < Cs.length → L[k]? = if k < i ∨ Cs.length ≤ k + i then Cs[Cs.length - 1 - k]? else Cs[k]?
theorem revI.zero (Cs : List CV) : revI Cs 0 Cs := ⟨rfl, fun k hk => by rw [if_neg (by omega)]⟩
theorem revI.at_ {Cs L : List CV} {i k : Nat} {x : CV} (h : revI Cs i L) (hk : i ≤ k) (hk2 : k + i < Cs.length) (hx : L[k]? = some x) : Cs[k]? = some x := by
 have := h.2 k (by omega)
 rw [if_neg (by omega)] at this
 rw [← this]; exact hx
theorem revI.next {Cs L : List CV} {i : Nat} {x y : CV} (h : revI Cs i L) (hi : i < Cs.length - 1 - i) (hx : L[i]? = some x) (hy : L[Cs.length - 1 - i]? = some y) : revI Cs (i + 1) ((L.set i y).set (Cs.length - 1 - i) x) := by
 have hx' := h.at_ (Nat.le_refl _) (by omega) hx
 have hy' := h.at_ (by omega) (by omega) hy
 refine ⟨by rw [List.length_set, List.length_set]; exact h.1, fun k hk => ?_⟩
 rw [List.getElem?_set, List.getElem?_set]
 by_cases e1 : Cs.length - 1 - i = k
 ·rw [if_pos e1, if_pos (by rw [List.length_set, h.1]; omega), if_pos (by omega), show Cs.length - 1 - k = i by omega, hx']
 ·rw [if_neg e1]
  by_cases e2 : i = k
  ·rw [if_pos e2, if_pos (by rw [h.1]; omega), if_pos (by omega), ← e2, hy']
  ·rw [if_neg e2, h.2 k hk]
   by_cases e3 : k < i ∨ Cs.length ≤ k + i
   ·rw [if_pos e3, if_pos (by omega)]
   ·rw [if_neg e3, if_neg (by omega)]
theorem revI.done {Cs L : List CV} {i : Nat} (h : revI Cs i L) (hi : Cs.length ≤ 2 * i + 1) : L = Cs.reverse := by
 apply List.ext_getElem?
 intro k
 by_cases hk : k < Cs.length
 ·rw [h.2 k hk, List.getElem?_reverse hk]
  by_cases e : k < i ∨ Cs.length ≤ k + i
  ·rw [if_pos e]
  ·rw [if_neg e, show Cs.length - 1 - k = k by omega]
 ·rw [List.getElem?_eq_none (by rw [h.1]; omega), List.getElem?_eq_none (by rw [List.length_reverse]; omega)]
theorem flatC_set : ∀ {L : List CV} {i : Nat} {y : CV}, i < L.length → (flatC L).take (5 * i) ++ cellsC y ++ (flatC L).drop (5 * i + (cellsC y).length) = flatC (L.set i y)
 | [], i, y, h => absurd h (Nat.not_lt_zero _)
 | x :: L, 0, y, _ => by
  rw [List.set_cons_zero, Nat.mul_zero, List.take_zero, List.nil_append, Nat.zero_add]
  show cellsC y ++ (cellsC x ++ flatC L).drop (cellsC y).length = cellsC y ++ flatC L
  rw [show (cellsC y).length = (cellsC x).length from rfl, List.drop_left]
 | x :: L, i + 1, y, h => by
  have ih := flatC_set (L := L) (i := i) (y := y) (by simpa using h)
  rw [List.set_cons_succ]
  show (cellsC x ++ flatC L).take (5 * (i + 1)) ++ cellsC y ++ (cellsC x ++ flatC L).drop (5 * (i + 1) + (cellsC y).length) = cellsC x ++ flatC (L.set i y)
  rw [← ih, show 5 * (i + 1) = (cellsC x).length + 5 * i by rw [cellsC_len]; omega, List.take_length_add_append, Nat.add_assoc, List.drop_length_add_append]
  simp only [List.append_assoc]
theorem reverse_c (g m c : Nat) (Cs : List CV) (hCl : Cs.length = m) (hmc : m ≤ c) (hcm : c ≤ 9223372036854775807) (hm1 : 1 ≤ m) (w : World) (hl : Ent.lies ⟨g, 54, flatC Cs, c * 5⟩ w) : Calls Tryz.prog 24 #[.slice (some ⟨g, 0, none⟩) m c] w fun e w' => e = .returned (.tuple #[]) ∧ St w [⟨g, 54, flatC Cs.reverse, c * 5⟩] w' := by
 refine qM (args := [.slice (some ⟨g, 0, none⟩) m c]) Tryz.func24 rfl Tryz.ntmps24 (by simp) ?_
 refine qC [0] ?_
 refine TC.heap (H' := [⟨g, 54, flatC Cs, (c * 5)⟩]) (fun w1 h => ⟨h.os, h.tape, h.output, h.size, fun e he => (List.mem_singleton.1 he) ▸ hl.of_block (h.old g hl.lt (by simp)), fun b hb _ => h.old b hb (by simp), List.pairwise_singleton _ _⟩) ?_
 iterate 4 refine gx ?_
 refine qB (qA rfl) rfl (qy rfl rfl rfl (r := ((m : Int) - 1)) (w64 (by omega) (by omega))) ?_
 iterate 5 refine gx ?_
 refine qm (ι := Nat × List CV) (fun z0 => [(0, .slice (some ⟨g, 0, none⟩) m c), (2, .int .i64 (z0.1 : Int)), (3, .int .i64 ((m : Int) - (z0.1 : Int) - 1))]) (fun z0 => [⟨g, 54, flatC z0.2, (c * 5)⟩]) (fun z0 => m - z0.1) (fun z0 => 2 * z0.1 ≤ m ∧ revI Cs z0.1 z0.2) (0, Cs) ⟨Nat.zero_le _, revI.zero Cs⟩ (qR (i := 0) rfl rfl (by first | omega | (dsimp only; omega) | rfl) (by first | omega | (dsimp only; omega) | rfl) (qF (i := 2) rfl rfl (qF (i := 3) rfl (by simp) (qO)))) (fun w h => h) (fun z0 hC0 => ?_)
 obtain ⟨i, L0⟩ := z0
 obtain ⟨hi2, hL0⟩ := hC0
 dsimp only at hi2 hL0 ⊢
 iterate 8 refine gx ?_
 refine qP rfl (fun hq0 => ?_) (fun hq0 => ?_)
 ·obtain ⟨x0, hx0⟩ : ∃ x, L0[i]? = some x := ⟨_, List.getElem?_eq_getElem (by have := hL0.1; omega)⟩
  obtain ⟨y0, hy0⟩ : ∃ y, L0[m - 1 - i]? = some y := ⟨_, List.getElem?_eq_getElem (by have := hL0.1; omega)⟩
  iterate 4 refine gx ?_
  refine TC.heap (H' := [] ++ ([⟨g, 54, flatC L0, (c * 5)⟩])) (fun w h => h) ?_
  refine TC.mixB (HB := []) (H := [Ent.mk g 54 (flatC L0) (c * 5)]) (by kernel_rfl) [0, 0, 0, 0, 0, 0, 0, 1, 0, 0, 0, 1, 0, 8, 0, 8] [0, 1, 2, 3, 4, 5, 8, 9, 6, 10, 7, 11, 12, 13, 14, 15] (by kernel_rfl) ?_
  refine qx (qA rfl) rfl (fun _ => qv rfl rfl) ?_
  refine qx (qA rfl) rfl (fun _ => qv rfl rfl) ?_
  refine qx (qA rfl) rfl (fun _ => qv rfl rfl) ?_
  refine qx (qA rfl) rfl (fun _ => qv rfl rfl) ?_
  refine qx (qA rfl) rfl (fun _ => qv rfl rfl) ?_
  refine qx (qA rfl) rfl (fun _ => qv rfl rfl) ?_
  refine qx (qA rfl) rfl (fun _ => qv rfl rfl) ?_
  refine qx (qA rfl) rfl (fun _ => qv rfl rfl) ?_
  refine qx (qA rfl) rfl (fun _ => qb rfl Tryz.underlying24 size54 rfl rfl (i := (m - i - 1)) (by omega) (by omega) (off' := (5 * m - 5 * i - 5)) (by omega)) ?_
  refine qx (qA rfl) rfl (fun _ => qb rfl Tryz.underlying24 size54 rfl rfl (i := i) (by omega) (by omega) (off' := (5 * i)) (by omega)) ?_
  refine TP.gets (qA rfl) rfl (qi rfl agg54 size54 rfl (vs := cellsC y0) rfl (b := g) (off := 5 * m - 5 * i - 5) (Row.ent (i := 0) (ent := ⟨g, 54, flatC L0, (c * 5)⟩) rfl rfl (fun j u h => by show (flatC L0)[5 * m - 5 * i - 5 + j]? = _; rw [show 5 * m - 5 * i - 5 + j = 5 * (m - 1 - i) + j by omega]; exact flatC_get hy0 h))) ?_
  refine TP.gets (qA rfl) rfl (qi rfl agg54 size54 rfl (vs := cellsC x0) rfl (b := g) (off := 5 * i) (Row.ent (i := 0) (ent := ⟨g, 54, flatC L0, (c * 5)⟩) rfl rfl (fun j u h => by show (flatC L0)[5 * i + j]? = _; rw [show 5 * i + j = 5 * i + j by omega]; exact flatC_get hx0 h))) ?_
  refine qx (qA rfl) rfl (fun _ => qb rfl Tryz.underlying24 size54 rfl rfl (i := i) (by omega) (by omega) (off' := (5 * i)) (by omega)) ?_
  refine TP.storeN (qA rfl) rfl rfl size54 rfl (g := g) (off := 5 * i) rfl (vs := cellsC y0) rfl (by intro u hu; exact flatC_one' [y0] u (by rw [flatC_one]; exact hu)) (i := 0) (ent := ⟨g, 54, flatC L0, (c * 5)⟩) rfl rfl (by show 5 * i + 5 ≤ (flatC L0).length; rw [flatC_len]; have := hL0.1; (try simp only [List.length_set]); omega) (cs' := flatC (L0.set i y0)) (by show (flatC L0).take (5 * i) ++ cellsC y0 ++ (flatC L0).drop (5 * i + (cellsC y0).length) = _; rw [show 5 * i = 5 * i by omega]; exact flatC_set (by have := hL0.1; (try simp only [List.length_set]); omega)) (H' := [⟨g, 54, flatC (L0.set i y0), (c * 5)⟩]) rfl ?_
  refine qx (qA rfl) rfl (fun _ => qb rfl Tryz.underlying24 size54 rfl rfl (i := (m - i - 1)) (by omega) (by omega) (off' := (5 * m - 5 * i - 5)) (by omega)) ?_
  refine TP.storeN (qA rfl) rfl rfl size54 rfl (g := g) (off := 5 * m - 5 * i - 5) rfl (vs := cellsC x0) rfl (by intro u hu; exact flatC_one' [x0] u (by rw [flatC_one]; exact hu)) (i := 0) (ent := ⟨g, 54, flatC (L0.set i y0), (c * 5)⟩) rfl rfl (by show 5 * m - 5 * i - 5 + 5 ≤ (flatC (L0.set i y0)).length; rw [flatC_len]; have := hL0.1; (try simp only [List.length_set]); omega) (cs' := flatC ((L0.set i y0).set (m - 1 - i) x0)) (by show (flatC (L0.set i y0)).take (5 * m - 5 * i - 5) ++ cellsC x0 ++ (flatC (L0.set i y0)).drop (5 * m - 5 * i - 5 + (cellsC x0).length) = _; rw [show 5 * m - 5 * i - 5 = 5 * (m - 1 - i) by omega]; exact flatC_set (by have := hL0.1; (try simp only [List.length_set]); omega)) (H' := [⟨g, 54, flatC ((L0.set i y0).set (m - 1 - i) x0), (c * 5)⟩]) rfl ?_
  refine TP.nil ?_
  refine TE.heap (H' := [⟨g, 54, flatC ((L0.set i y0).set (m - 1 - i) x0), (c * 5)⟩]) (fun w h => h) ?_
  iterate 2 refine gx ?_
  refine qC [0, 2, 3] ?_
  iterate 2 refine gx ?_
  refine qB (qA rfl) rfl (qQ rfl rfl rfl (r := ((i : Int) + 1)) (w64 (by omega) (by omega))) ?_
  refine gx ?_
  refine qB (qA rfl) rfl (qy rfl rfl rfl (r := ((m : Int) - (i : Int) - 2)) (w64 (by omega) (by omega))) ?_
  iterate 3 refine gx ?_
  exact qc (i + 1, (L0.set i y0).set (m - 1 - i) x0) (by show m - (i + 1) < m - i; omega) ⟨by show 2 * (i + 1) ≤ m; omega, by have h9 := hL0.next (by omega) hx0 (by rw [hCl]; exact hy0); rw [hCl] at h9; exact h9⟩ (qR (i := 0) rfl rfl (by first | omega | (dsimp only; omega) | rfl) (by first | omega | (dsimp only; omega) | rfl) (qF (i := 2) rfl (by omega) (qF (i := 3) rfl (by omega) (qO)))) (fun w h => h)
 ·iterate 4 refine gx ?_
  exact TE.end0 rfl (fun w hs => ⟨rfl, by rw [← hL0.done (by omega)]; exact hs⟩)
/-
 slices.Reverse of no commands.
-/
theorem reverse0_c (A : Option Addr) (c : Nat) (w : World) : Calls Tryz.prog 24 #[.slice A 0 c] w fun e w' => e = .returned (.tuple #[]) ∧ St w [] w' := by
 refine qM (args := [.slice A 0 c]) Tryz.func24 rfl Tryz.ntmps24 (by simp) ?_
 refine qC [0] ?_
 iterate 4 refine gx ?_
 refine qB (qA rfl) rfl (qy rfl rfl rfl (r := (-1)) (w64 (by omega) (by omega))) ?_
 iterate 5 refine gx ?_
 refine qm (ι := Nat) (fun i => [(2, .int .i64 0), (3, .int .i64 (-1))]) (fun i => []) (fun i => 0) (fun i => True) 0 trivial (qF (i := 2) rfl (by first | omega | rfl) (qF (i := 3) rfl (by first | omega | rfl) (qO))) (fun w h => h) (fun i hC0 => ?_)
 iterate 5 refine gx ?_
 refine qB (qA rfl) rfl (qT (qs rfl rfl rfl) (by omega)) ?_
 iterate 2 refine gx ?_
 refine qa rfl ?_
 iterate 4 refine gx ?_
 exact TE.end0 rfl (fun w hs => ⟨rfl, hs⟩)
/-
 PatchOrder: the walk.
-/
theorem enters24 : Enters Tryz.prog 24 := ⟨_, Tryz.func24, by kernel_rfl, by kernel_rfl⟩
theorem enters25 : Enters Tryz.prog 25 := ⟨_, Tryz.func25, by kernel_rfl, by kernel_rfl⟩
set_option maxHeartbeats 4000000 in
theorem porder_big (Ao : Option Addr) (mo co : Nat) (B : List Int) (o n : Int) (H1 H2 : List Int) (hH1 : H1.length = 32) (hH2 : H2.length = 32) (A : Option Addr) (m c : Nat) (Cs : List CV) (w : World) (hsB : Src w Ao mo .u8 B) (hmo : mo ≤ co) (hco : co ≤ 9223372036854775807) (hBB : Bytes B) (bo : -9223372036854775808 ≤ o ∧ o ≤ 9223372036854775807) (bn : -9223372036854775808 ≤ n ∧ n ≤ 9223372036854775807) (hmc : m ≤ c) (hcm : c ≤ 9223372036854775807) (hN : NumsC Cs) (hC : SrcC w A m Cs) (hD : DatC w Cs) (hA : A = none → m = 0) (hB1 : Bytes H1) (hB2 : Bytes H2) (hMX : MaxC w) (h1 : 2 < w.heap.size) (hIV : RowI w 0 0 8 .u32 IV) (hK : RowI w 2 0 64 .u32 KT)(hb : 300 < mo) : Calls Tryz.prog 8 #[.slice Ao mo co, .agg (dV o n H1 H2 (slice A m c)).toArray] w fun e w' => e = .returned (.bool true) ∧ St w [] w' := by
 refine qM (args := [.slice Ao mo co, .agg (dV o n H1 H2 (slice A m c)).toArray]) Tryz.func8 rfl Tryz.ntmps8 (by simp) ?_
 refine qC [0, 1] ?_
 iterate 2 refine gx ?_
 refine qu (qA rfl) rfl rfl rfl (cs := dV o n H1 H2 (slice A m c)) (by simp [Value.cells]) (tot := 67) (by simp [hH1, hH2]) (fun g1 hg1 => ?_)
 iterate 8 refine gx ?_
 refine qB (qA rfl) rfl (qV (zF rfl rfl rfl) (by omega)) ?_
 iterate 8 refine gx ?_
 refine qC [0, 3, 4, 15] ?_
 refine qd rfl ?_
 iterate 2 refine gx ?_
 refine qL (qA rfl) rfl enters10 rfl rfl (v := .bool true) (fun w hs => alive8_c w (hMX.at_ hs (qD (by show g1 ≠ 1; omega) qE)) (Nat.lt_of_lt_of_le h1 hs.size) (hIV.keepH hs (by omega) (qD (by show g1 ≠ 0; omega) qE)) (hK.keepH hs h1 (qD (by show g1 ≠ 2; omega) qE))) ?_
 iterate 5 refine gx ?_
 exact qK rfl rfl (fun w hs => ⟨rfl, ((hs.drop (by assumption)))⟩)
set_option maxHeartbeats 4000000 in
theorem porder_nofit (Ao : Option Addr) (mo co : Nat) (B : List Int) (o n : Int) (H1 H2 : List Int) (hH1 : H1.length = 32) (hH2 : H2.length = 32) (A : Option Addr) (m c : Nat) (Cs : List CV) (w : World) (hsB : Src w Ao mo .u8 B) (hmo : mo ≤ co) (hco : co ≤ 9223372036854775807) (hBB : Bytes B) (bo : -9223372036854775808 ≤ o ∧ o ≤ 9223372036854775807) (bn : -9223372036854775808 ≤ n ∧ n ≤ 9223372036854775807) (hmc : m ≤ c) (hcm : c ≤ 9223372036854775807) (hN : NumsC Cs) (hC : SrcC w A m Cs) (hD : DatC w Cs) (hA : A = none → m = 0) (hB1 : Bytes H1) (hB2 : Bytes H2) (hMX : MaxC w) (h1 : 2 < w.heap.size) (hIV : RowI w 0 0 8 .u32 IV) (hK : RowI w 2 0 64 .u32 KT)(hb : mo ≤ 300) (hft : ¬ fitsP o n Cs mo) : Calls Tryz.prog 8 #[.slice Ao mo co, .agg (dV o n H1 H2 (slice A m c)).toArray] w fun e w' => e = .returned (.bool true) ∧ St w [] w' := by
 refine qM (args := [.slice Ao mo co, .agg (dV o n H1 H2 (slice A m c)).toArray]) Tryz.func8 rfl Tryz.ntmps8 (by simp) ?_
 refine qC [0, 1] ?_
 iterate 2 refine gx ?_
 refine qu (qA rfl) rfl rfl rfl (cs := dV o n H1 H2 (slice A m c)) (by simp [Value.cells]) (tot := 67) (by simp [hH1, hH2]) (fun g1 hg1 => ?_)
 iterate 8 refine gx ?_
 refine qB (qA rfl) rfl (qT (zF rfl rfl rfl) (by omega)) ?_
 iterate 3 refine gx ?_
 refine qL (qI rfl rfl rfl) rfl enters13 rfl rfl (v := .bool false) (fun w hs => (rfits8_c Ao mo co (by omega) o n H1 H2 hH1 hH2 A m c Cs (by omega) hN w (hC.at_ hs (fun b hb => (qD (by show g1 ≠ b; omega) qE)))).mono fun e w' h => by rw [decide_eq_false (p := fitsP o n Cs mo) hft] at h; exact h) ?_
 iterate 4 refine gx ?_
 refine qC [0, 3, 4, 15] ?_
 refine qd rfl ?_
 iterate 2 refine gx ?_
 refine qL (qA rfl) rfl enters10 rfl rfl (v := .bool true) (fun w hs => alive8_c w (hMX.at_ hs (qD (by show g1 ≠ 1; omega) qE)) (Nat.lt_of_lt_of_le h1 hs.size) (hIV.keepH hs (by omega) (qD (by show g1 ≠ 0; omega) qE)) (hK.keepH hs h1 (qD (by show g1 ≠ 2; omega) qE))) ?_
 iterate 5 refine gx ?_
 exact qK rfl rfl (fun w hs => ⟨rfl, ((hs.drop (by assumption)))⟩)
set_option maxHeartbeats 4000000 in
theorem porder_fit1 (Ao : Option Addr) (mo co : Nat) (B : List Int) (o n : Int) (H1 H2 : List Int) (hH1 : H1.length = 32) (hH2 : H2.length = 32) (A : Option Addr) (m c : Nat) (Cs : List CV) (w : World) (hsB : Src w Ao mo .u8 B) (hmo : mo ≤ co) (hco : co ≤ 9223372036854775807) (hBB : Bytes B) (bo : -9223372036854775808 ≤ o ∧ o ≤ 9223372036854775807) (bn : -9223372036854775808 ≤ n ∧ n ≤ 9223372036854775807) (hmc : m ≤ c) (hcm : c ≤ 9223372036854775807) (hN : NumsC Cs) (hC : SrcC w A m Cs) (hD : DatC w Cs) (hA : A = none → m = 0) (hB1 : Bytes H1) (hB2 : Bytes H2) (hMX : MaxC w) (h1 : 2 < w.heap.size) (hIV : RowI w 0 0 8 .u32 IV) (hK : RowI w 2 0 64 .u32 KT)(hb : mo ≤ 300) (hft : fitsP o n Cs mo) (hm1 : 1 ≤ m) : Calls Tryz.prog 8 #[.slice Ao mo co, .agg (dV o n H1 H2 (slice A m c)).toArray] w fun e w' => e = .returned (.bool true) ∧ St w [] w' := by
 have hft2 := hft
 unfold fitsP at hft2
 have hVC : ValidC o n Cs := hft.valid
 have hmm : m ≤ 1000000000 := by have := hft2.1.2; have := hC.1; omega
 have hf := hft2.1.q
 have hlen := hVC.len
 unfold okLen at hlen
 refine qM (args := [.slice Ao mo co, .agg (dV o n H1 H2 (slice A m c)).toArray]) Tryz.func8 rfl Tryz.ntmps8 (by simp) ?_
 refine qC [0, 1] ?_
 iterate 2 refine gx ?_
 refine qu (qA rfl) rfl rfl rfl (cs := dV o n H1 H2 (slice A m c)) (by simp [Value.cells]) (tot := 67) (by simp [hH1, hH2]) (fun g1 hg1 => ?_)
 iterate 8 refine gx ?_
 refine qB (qA rfl) rfl (qT (zF rfl rfl rfl) (by omega)) ?_
 iterate 3 refine gx ?_
 refine qL (qI rfl rfl rfl) rfl enters13 rfl rfl (v := .bool true) (fun w hs => (rfits8_c Ao mo co (by omega) o n H1 H2 hH1 hH2 A m c Cs (by omega) hN w (hC.at_ hs (fun b hb => (qD (by show g1 ≠ b; omega) qE)))).mono fun e w' h => by rw [decide_eq_true (p := fitsP o n Cs mo) hft] at h; exact h) ?_
 iterate 4 refine gx ?_
 refine qC [0, 3, 4, 15] ?_
 refine qa rfl ?_
 iterate 6 refine gx ?_
 refine qg (ι := Nat) (V := fun y => .slice (some ⟨y, 0, none⟩) n.toNat n.toNat) (R := fun y => w.heap.size ≤ y) (H' := fun y => [⟨g1, 26, dV o n H1 H2 (slice A m c), 67⟩] ++ [Ent.mk y 5 ((newB B Cs n).map (int .u8)) n.toNat]) (qA rfl) rfl enters11 rfl rfl (fun w hs => (apply8_yes B Ao mo co hmo hco o n H1 H2 hH1 hH2 A m c Cs hmm hN w (hC.at_ hs (fun b hb => (qD (by show g1 ≠ b; omega) qE))) (hD.at_ hs (fun b hb => (qD (by show g1 ≠ b; omega) qE))) (hsB.at_ hs (fun b hb => (qD (by show g1 ≠ b; omega) qE))) (by omega) (by omega) ⟨hft2.2.2.1, hft2.2.1⟩ (by omega)).mono fun e w' ⟨g, he, hg, hw⟩ => ⟨g, he, Nat.le_trans hs.size hg, by exact st_call hs hw (qG hg qS)⟩) (fun y hR => ?_)
 obtain ⟨ya, hya⟩ : ∃ z, z = y := ⟨y, rfl⟩
 subst hya
 dsimp only
 have hFya0 : Fresh w [Ent.mk ya 5 ((newB B Cs n).map (int .u8)) n.toNat] := qG hR qS
 generalize hHya : ([Ent.mk ya 5 ((newB B Cs n).map (int .u8)) n.toNat] : List Ent) = Hya at hFya0 ⊢
 have hFya : Fresh w Hya := hFya0
 iterate 5 refine gx ?_
 refine TL.emptySlice (qA rfl) rfl rfl Tryz.underlying24 size54 (fun g2 hg2 => ?_)
 iterate 2 refine gx ?_
 refine TL.heap (H' := ([Ent.mk g1 26 (dV o n H1 H2 (slice A m c)) 67] ++ Hya) ++ [(Ent.mk g2 54 [] 0)]) (fun w h => h.perm (List.perm_append_comm (l₁ := [(Ent.mk g2 54 [] 0)]) (l₂ := [Ent.mk g1 26 (dV o n H1 H2 (slice A m c)) 67] ++ Hya))) ?_
 refine TL.appendS (H := [Ent.mk g1 26 (dV o n H1 H2 (slice A m c)) 67] ++ Hya) (He := [(Ent.mk g2 54 [] 0)]) (qA rfl) rfl rfl Tryz.underlying24 mk54 rfl (by decide) rfl rfl (s := 5) (nn := 0) (m := m) (cs := []) (news := flatC Cs) (OwnS.empty hg2 rfl) (by rw [flatC_len]; have := hC.1; omega) (fun w hs => (hC.at_ hs (fun b hb => (qU (qU (qD (by show g1 ≠ b; omega) qE) (hFya.ne hb)) (qD (by show g2 ≠ b; omega) qE)))).srcAll) (flatC_one' _) (by unfold maxLen; omega) (by omega) (fun vo Ho hvo0 => ?_)
 have hvo : OwnS w.heap.size 54 5 vo m (flatC Cs) Ho := by rw [← Nat.zero_add m]; exact hvo0
 clear hvo0
 obtain ⟨Ab, cb, rfl, hcb, hcb2⟩ := hvo.form
 obtain ⟨gb, rfl, _, rfl, hgb, _⟩ := hvo.at0 (by omega)
 refine TL.heap (H' := [⟨gb, 54, flatC Cs, (cb * 5)⟩, ⟨g1, 26, dV o n H1 H2 (slice A m c), 67⟩] ++ Hya) (fun w h => h.perm List.perm_append_comm) ?_
 iterate 3 refine gx ?_
 refine qC [0, 3, 4, 5, 6] ?_
 iterate 3 refine gx ?_
 refine qg (ι := Unit) (V := fun _ => .tuple #[]) (R := fun _ => True) (H' := fun _ => [⟨gb, 54, flatC Cs.reverse, (cb * 5)⟩, ⟨g1, 26, dV o n H1 H2 (slice A m c), 67⟩] ++ Hya) (qA rfl) rfl enters24 rfl rfl (fun w hs => (reverse_c gb m cb Cs hC.1 hcb hcb2 (by omega) w (hs.has ⟨gb, 54, flatC Cs, (cb * 5)⟩ (by simp))).mono fun e w' ⟨he, hw⟩ => ⟨(), he, trivial, St.turn (i := 0) (e := ⟨gb, 54, flatC Cs.reverse, (cb * 5)⟩) hs rfl rfl hw⟩) (fun _ _ => ?_)
 iterate 4 refine gx ?_
 refine qL (qA rfl) rfl enters10 rfl rfl (v := .bool true) (fun w hs => alive8_c w (hMX.at_ hs (qU (qD (by show gb ≠ 1; omega) (qD (by show g1 ≠ 1; omega) qE)) (hFya.ne hMX.1))) (Nat.lt_of_lt_of_le h1 hs.size) (hIV.keepH hs (by omega) (qU (qD (by show gb ≠ 0; omega) (qD (by show g1 ≠ 0; omega) qE)) (hFya.ne (by omega)))) (hK.keepH hs h1 (qU (qD (by show gb ≠ 2; omega) (qD (by show g1 ≠ 2; omega) qE)) (hFya.ne h1)))) ?_
 iterate 4 refine gx ?_
 refine qL (qI rfl rfl rfl) rfl enters25 rfl rfl (v := .agg ([int .i64 o, int .i64 n] ++ (H1.map (int .u8) ++ (H2.map (int .u8) ++ ([slice (some ⟨gb, 0, none⟩) m cb])))).toArray) (fun w hs => rdwith_c o n H1 H2 hH1 hH2 A (some ⟨gb, 0, none⟩) m c m cb w) ?_
 refine qg (ι := Nat) (V := fun y => .slice (some ⟨y, 0, none⟩) n.toNat n.toNat) (R := fun y => w.heap.size ≤ y) (H' := fun y => [⟨gb, 54, flatC Cs.reverse, (cb * 5)⟩, ⟨g1, 26, dV o n H1 H2 (slice A m c), 67⟩] ++ Hya ++ [Ent.mk y 5 ((newB B Cs n).map (int .u8)) n.toNat]) (qI rfl rfl rfl) rfl enters11 rfl rfl (fun w hs => (apply8_yes B Ao mo co hmo hco o n H1 H2 hH1 hH2 (some ⟨gb, 0, none⟩) m cb Cs.reverse hmm (hN.sub fun x hx => List.mem_reverse.1 hx) w (lies_srcC (hs.has (⟨gb, 54, flatC Cs.reverse, (cb * 5)⟩) (List.mem_of_getElem? (i := 0) rfl)) rfl (by rw [List.length_reverse]; exact hC.1)) ((hD.at_ hs (fun b hb => (qU (qD (by show gb ≠ b; omega) (qD (by show g1 ≠ b; omega) qE)) (hFya.ne hb)))).sub fun x hx => List.mem_reverse.1 hx) (hsB.at_ hs (fun b hb => (qU (qD (by show gb ≠ b; omega) (qD (by show g1 ≠ b; omega) qE)) (hFya.ne hb)))) (by omega) (by omega) ⟨hft2.2.2.1, by rw [hVC.permV (List.reverse_perm Cs)]⟩ (by omega)).mono fun e w' ⟨g, he, hg, hw⟩ => ⟨g, he, Nat.le_trans hs.size hg, by rw [newB_perm hVC (List.reverse_perm Cs).symm] at hw; exact st_call hs hw (qG hg qS)⟩) (fun y hR => ?_)
 obtain ⟨yb, hyb⟩ : ∃ z, z = y := ⟨y, rfl⟩
 subst hyb
 dsimp only
 have hFyb0 : Fresh w [Ent.mk yb 5 ((newB B Cs n).map (int .u8)) n.toNat] := qG hR qS
 generalize hHyb : ([Ent.mk yb 5 ((newB B Cs n).map (int .u8)) n.toNat] : List Ent) = Hyb at hFyb0 ⊢
 have hFyb : Fresh w Hyb := hFyb0
 refine TL.heap (H' := [⟨gb, 54, flatC Cs.reverse, (cb * 5)⟩, ⟨g1, 26, dV o n H1 H2 (slice A m c), 67⟩] ++ (Hya ++ Hyb)) (fun w h => by rw [← List.append_assoc]; exact h) ?_
 have hFtHyb := qp hFya hFyb
 refine gx ?_
 refine qL (qI rfl rfl rfl) rfl enters12 rfl rfl (v := .bool true) (fun w hs => calls_yes rfl (sequal_c (newB B Cs n) (newB B Cs n) (some ⟨yb, 0, none⟩) (some ⟨ya, 0, none⟩) n.toNat n.toNat n.toNat n.toNat w (src_ent (hs.has (Ent.mk yb 5 ((newB B Cs n).map (int .u8)) n.toNat) (by simp [← hHyb])) newB_len) (src_ent (hs.has (Ent.mk ya 5 ((newB B Cs n).map (int .u8)) n.toNat) (by simp [← hHya])) newB_len) (by omega) (by omega) (by omega) (by omega))) ?_
 iterate 4 refine gx ?_
 refine qg (ι := (Option Addr × Nat) × (List CV × List Ent)) (V := fun y => .agg (dV o n H1 H2 (slice y.1.1 m y.1.2)).toArray) (R := fun y => (m ≤ y.1.2 ∧ y.1.2 ≤ 9223372036854775807) ∧ OwnD w.heap.size y.1.1 m y.2.1 y.2.2 ∧ ∃ Gs : List CV, Gs.Perm Cs ∧ Gs.Pairwise leC ∧ sameE y.2.1 Gs) (H' := fun y => [⟨gb, 54, flatC Cs.reverse, (cb * 5)⟩, ⟨g1, 26, dV o n H1 H2 (slice A m c), 67⟩] ++ (Hya ++ Hyb) ++ y.2.2) (qI rfl rfl rfl) rfl enters26 rfl rfl (fun w hs => (dsort_c o n H1 H2 hH1 hH2 A m c Cs hmm hN w (hC.at_ hs (fun b hb => (qU (qD (by show gb ≠ b; omega) (qD (by show g1 ≠ b; omega) qE)) (hFtHyb.ne hb)))) (hD.at_ hs (fun b hb => (qU (qD (by show gb ≠ b; omega) (qD (by show g1 ≠ b; omega) qE)) (hFtHyb.ne hb)))) hf hVC).mono fun e w' ⟨A', c', Fs, He, he, hc, ho, hsm, hw⟩ => ⟨((A', c'), (Fs, He)), he, ⟨hc, ho.mono hs.size, hsm⟩, st_call hs hw ho.1⟩) (fun y hR => ?_)
 obtain ⟨⟨As, cs⟩, Fs, Hw⟩ := y
 obtain ⟨hcs, hos, Gs, hGp, hGs, hsms⟩ := hR
 dsimp only at hcs hos hsms ⊢
 have hFw : Fresh w Hw := hos.1
 have hvG := hVC.permV hGp
 have hvF : faultI o n Fs = (0, 0) := by rw [faultI_same hsms]; exact hvG
 have hVF := validC (o := o) (n := n) (Cs := Fs) (by rw [hvF])
 have hFl : Fs.length = m := by rw [hsms.len, hGp.length_eq]; exact hC.1
 refine TL.heap (H' := [⟨gb, 54, flatC Cs.reverse, (cb * 5)⟩, ⟨g1, 26, dV o n H1 H2 (slice A m c), 67⟩] ++ ((Hya ++ Hyb) ++ Hw)) (fun w h => by rw [← List.append_assoc]; exact h) ?_
 have hFtHw := qp hFtHyb hFw
 refine qg (ι := Nat) (V := fun y => .slice (some ⟨y, 0, none⟩) n.toNat n.toNat) (R := fun y => w.heap.size ≤ y) (H' := fun y => [⟨gb, 54, flatC Cs.reverse, (cb * 5)⟩, ⟨g1, 26, dV o n H1 H2 (slice A m c), 67⟩] ++ ((Hya ++ Hyb) ++ Hw) ++ [Ent.mk y 5 ((newB B Cs n).map (int .u8)) n.toNat]) (qI rfl rfl rfl) rfl enters11 rfl rfl (fun w hs => (apply8_yes B Ao mo co hmo hco o n H1 H2 hH1 hH2 As m cs Fs hmm hos.num w (hos.src (fun e he => hs.has e (by simp [he]))) (hos.dat (fun e he => hs.has e (by simp [he]))) (hsB.at_ hs (fun b hb => (qU (qD (by show gb ≠ b; omega) (qD (by show g1 ≠ b; omega) qE)) (hFtHw.ne hb)))) (by omega) (by omega) ⟨hft2.2.2.1, by rw [hvF]⟩ (by omega)).mono fun e w' ⟨g, he, hg, hw⟩ => ⟨g, he, Nat.le_trans hs.size hg, by rw [newB_same hsms n, newB_perm hVC hGp.symm] at hw; exact st_call hs hw (qG hg qS)⟩) (fun y hR => ?_)
 obtain ⟨yc, hyc⟩ : ∃ z, z = y := ⟨y, rfl⟩
 subst hyc
 dsimp only
 have hFyc0 : Fresh w [Ent.mk yc 5 ((newB B Cs n).map (int .u8)) n.toNat] := qG hR qS
 generalize hHyc : ([Ent.mk yc 5 ((newB B Cs n).map (int .u8)) n.toNat] : List Ent) = Hyc at hFyc0 ⊢
 have hFyc : Fresh w Hyc := hFyc0
 refine TL.heap (H' := [⟨gb, 54, flatC Cs.reverse, (cb * 5)⟩, ⟨g1, 26, dV o n H1 H2 (slice A m c), 67⟩] ++ (((Hya ++ Hyb) ++ Hw) ++ Hyc)) (fun w h => by rw [← List.append_assoc]; exact h) ?_
 have hFtHyc := qp hFtHw hFyc
 refine gx ?_
 refine qL (qI rfl rfl rfl) rfl enters12 rfl rfl (v := .bool true) (fun w hs => calls_yes rfl (sequal_c (newB B Cs n) (newB B Cs n) (some ⟨yc, 0, none⟩) (some ⟨ya, 0, none⟩) n.toNat n.toNat n.toNat n.toNat w (src_ent (hs.has (Ent.mk yc 5 ((newB B Cs n).map (int .u8)) n.toNat) (by simp [← hHyc])) newB_len) (src_ent (hs.has (Ent.mk ya 5 ((newB B Cs n).map (int .u8)) n.toNat) (by simp [← hHya])) newB_len) (by omega) (by omega) (by omega) (by omega))) ?_
 iterate 5 refine gx ?_
 refine qg (ι := (Option Addr × Nat) × List Ent) (V := fun y => .slice y.1.1 (newB B Cs n).length y.1.2) (R := fun y => Own w.heap.size 5 .u8 (.slice y.1.1 (newB B Cs n).length y.1.2) (newB B Cs n) y.2) (H' := fun y => [⟨gb, 54, flatC Cs.reverse, (cb * 5)⟩, ⟨g1, 26, dV o n H1 H2 (slice A m c), 67⟩] ++ (((Hya ++ Hyb) ++ Hw) ++ Hyc) ++ y.2) (qI rfl rfl rfl) rfl enters14 rfl rfl (fun w hs => (rapply_s B Ao mo co hmo hco hBB o n H1 H2 hH1 hH2 A m c Cs (by omega) hN w (hC.at_ hs (fun b hb => (qU (qD (by show gb ≠ b; omega) (qD (by show g1 ≠ b; omega) qE)) (hFtHyc.ne hb)))) (hsB.at_ hs (fun b hb => (qU (qD (by show gb ≠ b; omega) (qD (by show g1 ≠ b; omega) qE)) (hFtHyc.ne hb)))) (hD.at_ hs (fun b hb => (qU (qD (by show gb ≠ b; omega) (qD (by show g1 ≠ b; omega) qE)) (hFtHyc.ne hb)))) hVC (by omega) (by omega)).mono fun e w' ⟨A', c', He, he, ho, hw⟩ => ⟨((A', c'), He), he, own_mono ho hs.size, st_call hs hw ho.new⟩) (fun y hR => ?_)
 obtain ⟨⟨Az, cz⟩, Hz⟩ := y
 dsimp only at hR ⊢
 have hOz := hR
 have hFz : Fresh w Hz := hOz.new
 have hLn := newB_len (B := B) (Cs := Cs) (n := n)
 have hcz : (newB B Cs n).length ≤ cz ∧ cz ≤ 9223372036854775807 := by obtain ⟨_, _, h1, h2, h3⟩ := hOz.form; simp only [slice.injEq] at h1; omega
 refine TL.heap (H' := [⟨gb, 54, flatC Cs.reverse, (cb * 5)⟩, ⟨g1, 26, dV o n H1 H2 (slice A m c), 67⟩] ++ ((((Hya ++ Hyb) ++ Hw) ++ Hyc) ++ Hz)) (fun w h => by rw [← List.append_assoc]; exact h) ?_
 have hFtHz := qp hFtHyc hFz
 refine qL (qI rfl rfl rfl) rfl enters12 rfl rfl (v := .bool true) (fun w hs => calls_yes rfl (sequal_c (newB B Cs n) (newB B Cs n) (some ⟨ya, 0, none⟩) Az n.toNat n.toNat (newB B Cs n).length cz w (src_ent (hs.has (Ent.mk ya 5 ((newB B Cs n).map (int .u8)) n.toNat) (by simp [← hHya])) newB_len) (hOz.srcOf (fun e he => hs.has e (by simp [he]))) (by omega) (by omega) (by omega) (by omega))) ?_
 iterate 5 refine gx ?_
 exact qK rfl rfl (fun w hs => ⟨rfl, (St.left (H := []) hs (qG (by assumption) (qG (by assumption) hFtHz)))⟩)
set_option maxHeartbeats 4000000 in
theorem porder_fit0 (Ao : Option Addr) (mo co : Nat) (B : List Int) (o n : Int) (H1 H2 : List Int) (hH1 : H1.length = 32) (hH2 : H2.length = 32) (A : Option Addr) (m c : Nat) (Cs : List CV) (w : World) (hsB : Src w Ao mo .u8 B) (hmo : mo ≤ co) (hco : co ≤ 9223372036854775807) (hBB : Bytes B) (bo : -9223372036854775808 ≤ o ∧ o ≤ 9223372036854775807) (bn : -9223372036854775808 ≤ n ∧ n ≤ 9223372036854775807) (hmc : m ≤ c) (hcm : c ≤ 9223372036854775807) (hN : NumsC Cs) (hC : SrcC w A m Cs) (hD : DatC w Cs) (hA : A = none → m = 0) (hB1 : Bytes H1) (hB2 : Bytes H2) (hMX : MaxC w) (h1 : 2 < w.heap.size) (hIV : RowI w 0 0 8 .u32 IV) (hK : RowI w 2 0 64 .u32 KT)(hb : mo ≤ 300) (hft : fitsP o n Cs mo) (hm0 : m = 0) : Calls Tryz.prog 8 #[.slice Ao mo co, .agg (dV o n H1 H2 (slice A m c)).toArray] w fun e w' => e = .returned (.bool true) ∧ St w [] w' := by
 have hft2 := hft
 unfold fitsP at hft2
 have hVC : ValidC o n Cs := hft.valid
 have hmm : m ≤ 1000000000 := by have := hft2.1.2; have := hC.1; omega
 have hf := hft2.1.q
 have hlen := hVC.len
 unfold okLen at hlen
 have hrv0 : Cs.reverse = Cs := by have h9 : Cs = [] := List.length_eq_zero_iff.1 (hC.1.trans hm0); rw [h9]; rfl
 refine qM (args := [.slice Ao mo co, .agg (dV o n H1 H2 (slice A m c)).toArray]) Tryz.func8 rfl Tryz.ntmps8 (by simp) ?_
 refine qC [0, 1] ?_
 iterate 2 refine gx ?_
 refine qu (qA rfl) rfl rfl rfl (cs := dV o n H1 H2 (slice A m c)) (by simp [Value.cells]) (tot := 67) (by simp [hH1, hH2]) (fun g1 hg1 => ?_)
 iterate 8 refine gx ?_
 refine qB (qA rfl) rfl (qT (zF rfl rfl rfl) (by omega)) ?_
 iterate 3 refine gx ?_
 refine qL (qI rfl rfl rfl) rfl enters13 rfl rfl (v := .bool true) (fun w hs => (rfits8_c Ao mo co (by omega) o n H1 H2 hH1 hH2 A m c Cs (by omega) hN w (hC.at_ hs (fun b hb => (qD (by show g1 ≠ b; omega) qE)))).mono fun e w' h => by rw [decide_eq_true (p := fitsP o n Cs mo) hft] at h; exact h) ?_
 iterate 4 refine gx ?_
 refine qC [0, 3, 4, 15] ?_
 refine qa rfl ?_
 iterate 6 refine gx ?_
 refine qg (ι := Nat) (V := fun y => .slice (some ⟨y, 0, none⟩) n.toNat n.toNat) (R := fun y => w.heap.size ≤ y) (H' := fun y => [⟨g1, 26, dV o n H1 H2 (slice A m c), 67⟩] ++ [Ent.mk y 5 ((newB B Cs n).map (int .u8)) n.toNat]) (qA rfl) rfl enters11 rfl rfl (fun w hs => (apply8_yes B Ao mo co hmo hco o n H1 H2 hH1 hH2 A m c Cs hmm hN w (hC.at_ hs (fun b hb => (qD (by show g1 ≠ b; omega) qE))) (hD.at_ hs (fun b hb => (qD (by show g1 ≠ b; omega) qE))) (hsB.at_ hs (fun b hb => (qD (by show g1 ≠ b; omega) qE))) (by omega) (by omega) ⟨hft2.2.2.1, hft2.2.1⟩ (by omega)).mono fun e w' ⟨g, he, hg, hw⟩ => ⟨g, he, Nat.le_trans hs.size hg, by exact st_call hs hw (qG hg qS)⟩) (fun y hR => ?_)
 obtain ⟨ya, hya⟩ : ∃ z, z = y := ⟨y, rfl⟩
 subst hya
 dsimp only
 have hFya0 : Fresh w [Ent.mk ya 5 ((newB B Cs n).map (int .u8)) n.toNat] := qG hR qS
 generalize hHya : ([Ent.mk ya 5 ((newB B Cs n).map (int .u8)) n.toNat] : List Ent) = Hya at hFya0 ⊢
 have hFya : Fresh w Hya := hFya0
 iterate 5 refine gx ?_
 refine TL.emptySlice (qA rfl) rfl rfl Tryz.underlying24 size54 (fun g2 hg2 => ?_)
 iterate 2 refine gx ?_
 refine TL.heap (H' := ([Ent.mk g1 26 (dV o n H1 H2 (slice A m c)) 67] ++ Hya) ++ [(Ent.mk g2 54 [] 0)]) (fun w h => h.perm (List.perm_append_comm (l₁ := [(Ent.mk g2 54 [] 0)]) (l₂ := [Ent.mk g1 26 (dV o n H1 H2 (slice A m c)) 67] ++ Hya))) ?_
 refine TL.appendS (H := [Ent.mk g1 26 (dV o n H1 H2 (slice A m c)) 67] ++ Hya) (He := [(Ent.mk g2 54 [] 0)]) (qA rfl) rfl rfl Tryz.underlying24 mk54 rfl (by decide) rfl rfl (s := 5) (nn := 0) (m := m) (cs := []) (news := flatC Cs) (OwnS.empty hg2 rfl) (by rw [flatC_len]; have := hC.1; omega) (fun w hs => (hC.at_ hs (fun b hb => (qU (qU (qD (by show g1 ≠ b; omega) qE) (hFya.ne hb)) (qD (by show g2 ≠ b; omega) qE)))).srcAll) (flatC_one' _) (by unfold maxLen; omega) (by omega) (fun vo Ho hvo0 => ?_)
 have hvo : OwnS w.heap.size 54 5 vo m (flatC Cs) Ho := by rw [← Nat.zero_add m]; exact hvo0
 clear hvo0
 obtain ⟨Ab, cb, rfl, hcb, hcb2⟩ := hvo.form
 have hFo : Fresh w Ho := hvo.new
 refine TL.heap (H' := [Ent.mk g1 26 (dV o n H1 H2 (slice A m c)) 67] ++ (Hya ++ Ho)) (fun w h => by rw [← List.append_assoc]; exact h) ?_
 have hFio := qp hFya hFo
 iterate 3 refine gx ?_
 refine qC [0, 3, 4, 5, 6] ?_
 iterate 3 refine gx ?_
 refine qL (qA rfl) rfl enters24 rfl rfl (v := .tuple #[]) (fun w hs => by have h := reverse0_c Ab cb w; rw [← hm0] at h; exact h) ?_
 iterate 4 refine gx ?_
 refine qL (qA rfl) rfl enters10 rfl rfl (v := .bool true) (fun w hs => alive8_c w (hMX.at_ hs (qU (qD (by show g1 ≠ 1; omega) qE) (hFio.ne hMX.1))) (Nat.lt_of_lt_of_le h1 hs.size) (hIV.keepH hs (by omega) (qU (qD (by show g1 ≠ 0; omega) qE) (hFio.ne (by omega)))) (hK.keepH hs h1 (qU (qD (by show g1 ≠ 2; omega) qE) (hFio.ne h1)))) ?_
 iterate 4 refine gx ?_
 refine qL (qI rfl rfl rfl) rfl enters25 rfl rfl (v := .agg (dV o n H1 H2 (slice Ab m cb)).toArray) (fun w hs => rdwith_c o n H1 H2 hH1 hH2 A Ab m c m cb w) ?_
 refine qg (ι := Nat) (V := fun y => .slice (some ⟨y, 0, none⟩) n.toNat n.toNat) (R := fun y => w.heap.size ≤ y) (H' := fun y => [⟨g1, 26, dV o n H1 H2 (slice A m c), 67⟩] ++ (Hya ++ Ho) ++ [Ent.mk y 5 ((newB B Cs n).map (int .u8)) n.toNat]) (qI rfl rfl rfl) rfl enters11 rfl rfl (fun w hs => (apply8_yes B Ao mo co hmo hco o n H1 H2 hH1 hH2 Ab m cb Cs.reverse hmm (hN.sub fun x hx => List.mem_reverse.1 hx) w (by rw [hrv0]; exact hvo.srcC (fun e he => hs.has e (by simp [he]))) ((hD.at_ hs (fun b hb => (qU (qD (by show g1 ≠ b; omega) qE) (hFio.ne hb)))).sub fun x hx => List.mem_reverse.1 hx) (hsB.at_ hs (fun b hb => (qU (qD (by show g1 ≠ b; omega) qE) (hFio.ne hb)))) (by omega) (by omega) ⟨hft2.2.2.1, by rw [hVC.permV (List.reverse_perm Cs)]⟩ (by omega)).mono fun e w' ⟨g, he, hg, hw⟩ => ⟨g, he, Nat.le_trans hs.size hg, by rw [newB_perm hVC (List.reverse_perm Cs).symm] at hw; exact st_call hs hw (qG hg qS)⟩) (fun y hR => ?_)
 obtain ⟨yb, hyb⟩ : ∃ z, z = y := ⟨y, rfl⟩
 subst hyb
 dsimp only
 have hFyb0 : Fresh w [Ent.mk yb 5 ((newB B Cs n).map (int .u8)) n.toNat] := qG hR qS
 generalize hHyb : ([Ent.mk yb 5 ((newB B Cs n).map (int .u8)) n.toNat] : List Ent) = Hyb at hFyb0 ⊢
 have hFyb : Fresh w Hyb := hFyb0
 refine TL.heap (H' := [⟨g1, 26, dV o n H1 H2 (slice A m c), 67⟩] ++ ((Hya ++ Ho) ++ Hyb)) (fun w h => by rw [← List.append_assoc]; exact h) ?_
 have hFtHyb := qp hFio hFyb
 refine gx ?_
 refine qL (qI rfl rfl rfl) rfl enters12 rfl rfl (v := .bool true) (fun w hs => calls_yes rfl (sequal_c (newB B Cs n) (newB B Cs n) (some ⟨yb, 0, none⟩) (some ⟨ya, 0, none⟩) n.toNat n.toNat n.toNat n.toNat w (src_ent (hs.has (Ent.mk yb 5 ((newB B Cs n).map (int .u8)) n.toNat) (by simp [← hHyb])) newB_len) (src_ent (hs.has (Ent.mk ya 5 ((newB B Cs n).map (int .u8)) n.toNat) (by simp [← hHya])) newB_len) (by omega) (by omega) (by omega) (by omega))) ?_
 iterate 4 refine gx ?_
 refine qg (ι := (Option Addr × Nat) × (List CV × List Ent)) (V := fun y => .agg (dV o n H1 H2 (slice y.1.1 m y.1.2)).toArray) (R := fun y => (m ≤ y.1.2 ∧ y.1.2 ≤ 9223372036854775807) ∧ OwnD w.heap.size y.1.1 m y.2.1 y.2.2 ∧ ∃ Gs : List CV, Gs.Perm Cs ∧ Gs.Pairwise leC ∧ sameE y.2.1 Gs) (H' := fun y => [⟨g1, 26, dV o n H1 H2 (slice A m c), 67⟩] ++ ((Hya ++ Ho) ++ Hyb) ++ y.2.2) (qI rfl rfl rfl) rfl enters26 rfl rfl (fun w hs => (dsort_c o n H1 H2 hH1 hH2 A m c Cs hmm hN w (hC.at_ hs (fun b hb => (qU (qD (by show g1 ≠ b; omega) qE) (hFtHyb.ne hb)))) (hD.at_ hs (fun b hb => (qU (qD (by show g1 ≠ b; omega) qE) (hFtHyb.ne hb)))) hf hVC).mono fun e w' ⟨A', c', Fs, He, he, hc, ho, hsm, hw⟩ => ⟨((A', c'), (Fs, He)), he, ⟨hc, ho.mono hs.size, hsm⟩, st_call hs hw ho.1⟩) (fun y hR => ?_)
 obtain ⟨⟨As, cs⟩, Fs, Hw⟩ := y
 obtain ⟨hcs, hos, Gs, hGp, hGs, hsms⟩ := hR
 dsimp only at hcs hos hsms ⊢
 have hFw : Fresh w Hw := hos.1
 have hvG := hVC.permV hGp
 have hvF : faultI o n Fs = (0, 0) := by rw [faultI_same hsms]; exact hvG
 have hVF := validC (o := o) (n := n) (Cs := Fs) (by rw [hvF])
 have hFl : Fs.length = m := by rw [hsms.len, hGp.length_eq]; exact hC.1
 refine TL.heap (H' := [⟨g1, 26, dV o n H1 H2 (slice A m c), 67⟩] ++ (((Hya ++ Ho) ++ Hyb) ++ Hw)) (fun w h => by rw [← List.append_assoc]; exact h) ?_
 have hFtHw := qp hFtHyb hFw
 refine qg (ι := Nat) (V := fun y => .slice (some ⟨y, 0, none⟩) n.toNat n.toNat) (R := fun y => w.heap.size ≤ y) (H' := fun y => [⟨g1, 26, dV o n H1 H2 (slice A m c), 67⟩] ++ (((Hya ++ Ho) ++ Hyb) ++ Hw) ++ [Ent.mk y 5 ((newB B Cs n).map (int .u8)) n.toNat]) (qI rfl rfl rfl) rfl enters11 rfl rfl (fun w hs => (apply8_yes B Ao mo co hmo hco o n H1 H2 hH1 hH2 As m cs Fs hmm hos.num w (hos.src (fun e he => hs.has e (by simp [he]))) (hos.dat (fun e he => hs.has e (by simp [he]))) (hsB.at_ hs (fun b hb => (qU (qD (by show g1 ≠ b; omega) qE) (hFtHw.ne hb)))) (by omega) (by omega) ⟨hft2.2.2.1, by rw [hvF]⟩ (by omega)).mono fun e w' ⟨g, he, hg, hw⟩ => ⟨g, he, Nat.le_trans hs.size hg, by rw [newB_same hsms n, newB_perm hVC hGp.symm] at hw; exact st_call hs hw (qG hg qS)⟩) (fun y hR => ?_)
 obtain ⟨yc, hyc⟩ : ∃ z, z = y := ⟨y, rfl⟩
 subst hyc
 dsimp only
 have hFyc0 : Fresh w [Ent.mk yc 5 ((newB B Cs n).map (int .u8)) n.toNat] := qG hR qS
 generalize hHyc : ([Ent.mk yc 5 ((newB B Cs n).map (int .u8)) n.toNat] : List Ent) = Hyc at hFyc0 ⊢
 have hFyc : Fresh w Hyc := hFyc0
 refine TL.heap (H' := [⟨g1, 26, dV o n H1 H2 (slice A m c), 67⟩] ++ ((((Hya ++ Ho) ++ Hyb) ++ Hw) ++ Hyc)) (fun w h => by rw [← List.append_assoc]; exact h) ?_
 have hFtHyc := qp hFtHw hFyc
 refine gx ?_
 refine qL (qI rfl rfl rfl) rfl enters12 rfl rfl (v := .bool true) (fun w hs => calls_yes rfl (sequal_c (newB B Cs n) (newB B Cs n) (some ⟨yc, 0, none⟩) (some ⟨ya, 0, none⟩) n.toNat n.toNat n.toNat n.toNat w (src_ent (hs.has (Ent.mk yc 5 ((newB B Cs n).map (int .u8)) n.toNat) (by simp [← hHyc])) newB_len) (src_ent (hs.has (Ent.mk ya 5 ((newB B Cs n).map (int .u8)) n.toNat) (by simp [← hHya])) newB_len) (by omega) (by omega) (by omega) (by omega))) ?_
 iterate 5 refine gx ?_
 refine qg (ι := (Option Addr × Nat) × List Ent) (V := fun y => .slice y.1.1 (newB B Cs n).length y.1.2) (R := fun y => Own w.heap.size 5 .u8 (.slice y.1.1 (newB B Cs n).length y.1.2) (newB B Cs n) y.2) (H' := fun y => [⟨g1, 26, dV o n H1 H2 (slice A m c), 67⟩] ++ ((((Hya ++ Ho) ++ Hyb) ++ Hw) ++ Hyc) ++ y.2) (qI rfl rfl rfl) rfl enters14 rfl rfl (fun w hs => (rapply_s B Ao mo co hmo hco hBB o n H1 H2 hH1 hH2 A m c Cs (by omega) hN w (hC.at_ hs (fun b hb => (qU (qD (by show g1 ≠ b; omega) qE) (hFtHyc.ne hb)))) (hsB.at_ hs (fun b hb => (qU (qD (by show g1 ≠ b; omega) qE) (hFtHyc.ne hb)))) (hD.at_ hs (fun b hb => (qU (qD (by show g1 ≠ b; omega) qE) (hFtHyc.ne hb)))) hVC (by omega) (by omega)).mono fun e w' ⟨A', c', He, he, ho, hw⟩ => ⟨((A', c'), He), he, own_mono ho hs.size, st_call hs hw ho.new⟩) (fun y hR => ?_)
 obtain ⟨⟨Az, cz⟩, Hz⟩ := y
 dsimp only at hR ⊢
 have hOz := hR
 have hFz : Fresh w Hz := hOz.new
 have hLn := newB_len (B := B) (Cs := Cs) (n := n)
 have hcz : (newB B Cs n).length ≤ cz ∧ cz ≤ 9223372036854775807 := by obtain ⟨_, _, h1, h2, h3⟩ := hOz.form; simp only [slice.injEq] at h1; omega
 refine TL.heap (H' := [⟨g1, 26, dV o n H1 H2 (slice A m c), 67⟩] ++ (((((Hya ++ Ho) ++ Hyb) ++ Hw) ++ Hyc) ++ Hz)) (fun w h => by rw [← List.append_assoc]; exact h) ?_
 have hFtHz := qp hFtHyc hFz
 refine qL (qI rfl rfl rfl) rfl enters12 rfl rfl (v := .bool true) (fun w hs => calls_yes rfl (sequal_c (newB B Cs n) (newB B Cs n) (some ⟨ya, 0, none⟩) Az n.toNat n.toNat (newB B Cs n).length cz w (src_ent (hs.has (Ent.mk ya 5 ((newB B Cs n).map (int .u8)) n.toNat) (by simp [← hHya])) newB_len) (hOz.srcOf (fun e he => hs.has e (by simp [he]))) (by omega) (by omega) (by omega) (by omega))) ?_
 iterate 5 refine gx ?_
 exact qK rfl rfl (fun w hs => ⟨rfl, (St.left (H := []) hs (qG (by assumption) hFtHz))⟩)
theorem patchOrder_walk (Ao : Option Addr) (mo co : Nat) (B : List Int) (o n : Int) (H1 H2 : List Int) (hH1 : H1.length = 32) (hH2 : H2.length = 32) (A : Option Addr) (m c : Nat) (Cs : List CV) (w : World) (hsB : Src w Ao mo .u8 B) (hmo : mo ≤ co) (hco : co ≤ 9223372036854775807) (hBB : Bytes B) (bo : -9223372036854775808 ≤ o ∧ o ≤ 9223372036854775807) (bn : -9223372036854775808 ≤ n ∧ n ≤ 9223372036854775807) (hmc : m ≤ c) (hcm : c ≤ 9223372036854775807) (hN : NumsC Cs) (hC : SrcC w A m Cs) (hD : DatC w Cs) (hA : A = none → m = 0) (hB1 : Bytes H1) (hB2 : Bytes H2) (hMX : MaxC w) (h1 : 2 < w.heap.size) (hIV : RowI w 0 0 8 .u32 IV) (hK : RowI w 2 0 64 .u32 KT): Calls Tryz.prog 8 #[.slice Ao mo co, .agg (dV o n H1 H2 (slice A m c)).toArray] w fun e w' => e = .returned (.bool true) ∧ St w [] w' := by
 by_cases hb : 300 < mo
 ·exact porder_big Ao mo co B o n H1 H2 hH1 hH2 A m c Cs w hsB hmo hco hBB bo bn hmc hcm hN hC hD hA hB1 hB2 hMX h1 hIV hK hb
 ·by_cases hft : fitsP o n Cs mo
  ·by_cases hm : m = 0
   ·exact porder_fit0 Ao mo co B o n H1 H2 hH1 hH2 A m c Cs w hsB hmo hco hBB bo bn hmc hcm hN hC hD hA hB1 hB2 hMX h1 hIV hK (by omega) hft hm
   ·exact porder_fit1 Ao mo co B o n H1 H2 hH1 hH2 A m c Cs w hsB hmo hco hBB bo bn hmc hcm hN hC hD hA hB1 hB2 hMX h1 hIV hK (by omega) hft (by omega)
  ·exact porder_nofit Ao mo co B o n H1 H2 hH1 hH2 A m c Cs w hsB hmo hco hBB bo bn hmc hcm hN hC hD hA hB1 hB2 hMX h1 hIV hK (by omega) hft
theorem patchOrder_lifted (os : Os) (started : os.Started) (H : Type) (enc : TypeId × Value → H) :
  ReturnsInHanded {} Tryz.checked os 8 .any (fun w args => (Rows.patchOrderSpec.pre enc Tryz.prog Tryz.f8 [] false w args ∧ laidMetH Tryz.prog [("graft/sha.squareRoots", Rows.laid_graft_sha_squareRoots), ("graft/sha.cubeRoots", Rows.laid_graft_sha_cubeRoots)] w) ∧ sizedMet enc Tryz.prog Tryz.f8 (OpenSpec.ofChange Rows.patchOrderSpec) false w args) (Rows.patchOrderSpec.post enc Tryz.prog Tryz.f8 false true false false) := by
 refine returnsInHanded_both (C := Tryz.checked) (X := fun w _ => laidMetH Tryz.prog [("graft/sha.squareRoots", Rows.laid_graft_sha_squareRoots), ("graft/sha.cubeRoots", Rows.laid_graft_sha_cubeRoots)] w) (fun _ _ _ hh h => h.of_heap hh) own_knob started (by kernel_rfl) Tryz.func8
  (ChangeSpec.witness_shaped (enc := enc) (C := Tryz.checked) (os := os) (X := fun w _ => laidMetH Tryz.prog [("graft/sha.squareRoots", Rows.laid_graft_sha_squareRoots), ("graft/sha.cubeRoots", Rows.laid_graft_sha_cubeRoots)] w) false (World.doorLaid Tryz.prog 100 os) #[.slice none 0 0, .agg #[.int .i64 0, .int .i64 0, .int .u8 0, .int .u8 0, .int .u8 0, .int .u8 0, .int .u8 0, .int .u8 0, .int .u8 0, .int .u8 0, .int .u8 0, .int .u8 0, .int .u8 0, .int .u8 0, .int .u8 0, .int .u8 0, .int .u8 0, .int .u8 0, .int .u8 0, .int .u8 0, .int .u8 0, .int .u8 0, .int .u8 0, .int .u8 0, .int .u8 0, .int .u8 0, .int .u8 0, .int .u8 0, .int .u8 0, .int .u8 0, .int .u8 0, .int .u8 0, .int .u8 0, .int .u8 0, .int .u8 0, .int .u8 0, .int .u8 0, .int .u8 0, .int .u8 0, .int .u8 0, .int .u8 0, .int .u8 0, .int .u8 0, .int .u8 0, .int .u8 0, .int .u8 0, .int .u8 0, .int .u8 0, .int .u8 0, .int .u8 0, .int .u8 0, .int .u8 0, .int .u8 0, .int .u8 0, .int .u8 0, .int .u8 0, .int .u8 0, .int .u8 0, .int .u8 0, .int .u8 0, .int .u8 0, .int .u8 0, .int .u8 0, .int .u8 0, .int .u8 0, .int .u8 0, .slice none 0 0]] 8 rfl (World.shaped_of_RefB (by kernel_rfl) (by kernel_rfl)) (by kernel_rfl) (by kernel_rfl) (by kernel_rfl) (door_met os _)) ?_
 intro W base args ds gs before hval0 hW hsz0 hL hSh
 have hval : ∀ (j : Nat) t v, Tryz.f8.params[j]? = some t → args[j]? = some v → Value.okWide Tryz.prog W .any base t v := hval0
 have hW' := hW
 obtain ⟨p, q, hA0, hV, rfl, hfz, hnd⟩ := hW
 have hA : DataW.TrodAll enc Tryz.prog W 0 (fun _ => true) true Tryz.f8.params.toList args.toList ds p := hA0
 have hsz : (DataW.weightsEach Tryz.prog (Tryz.f8.params.toList ++ Rows.patchOrderSpec.plain.varTypes Tryz.prog) (ds ++ gs)).all (· ≤ reachBytes) = true := hsz0
 rw [Tryz.params8] at hA hval hsz
 obtain ⟨v0, vs0, d0, ds0, p0, q0, hargs, rfl, rfl, h0, r0⟩ := trodAll_cons hA
 obtain ⟨v1, vs1, d1, ds1, p1, q1, rfl, rfl, rfl, h1, r1⟩ := trodAll_cons r0
 obtain ⟨rfl, rfl, rfl⟩ := trodAll_nil r1
 obtain rfl : args = #[v0, v1] := by cases args; simp_all
 obtain ⟨rfl, rfl⟩ := trodVars_none hV
 have k0 := h0
 have lt0 : ∀ x ∈ p0, x.block < W.heap.size := by obtain ⟨m, hm⟩ := k0; exact DataW.trod_lt m _ _ _ hm
 have k1 := h1
 have lt1 : ∀ x ∈ p1, x.block < W.heap.size := by obtain ⟨m, hm⟩ := k1; exact DataW.trod_lt m _ _ _ hm
 obtain ⟨Aa, ma, ca, Ba, hv0, hmc0, hcm0, hs0, hB0⟩ := open_bytes Tryz.underlying22 Tryz.underlying5 (by kernel_rfl) (hval 0 22 v0 rfl rfl) h0
 subst hv0
 obtain ⟨od, nd, H1d, H2d, Ad, md, cd, Cd, hv1, bo1, bn1, hH11, hH21, hB11, hB21, hmc1, hcm1, hC1, hN1, hD1, hA1⟩ := open_dlt (hval 1 26 v1 rfl rfl) h1 (fun q hq => of_decide_eq_true (List.all_eq_true.1 hsz q (DataW.weights_mem_each (j := 1) (t := 26) (d := d1) rfl rfl q hq)))
 subst hv1
 obtain ⟨h1, hIV, hK⟩ := of_laid hL
 clear hA0 hval0 hsz0
 refine (patchOrder_walk Aa ma ca Ba od nd H1d H2d hH11 hH21 Ad md cd Cd W hs0 hmc0 hcm0 hB0 bo1 bn1 hmc1 hcm1 hN1 hC1 hD1 hA1 hB11 hB21 (maxC_of hSh) h1 hIV hK).mono fun e W' ⟨he, hst⟩ => ?_
 have bel := hst.below
 subst he
 exact ⟨_, rfl, _, _, _, [], _, [], hW', trodAll_mk1 (shut_bool Tryz.underlying4 _), (trodAll_cons_mk (Below.trod laid_out (by kernel_rfl) (of_decide_eq_true (by kernel_rfl)) k0 bel lt0) (trodAll_cons_mk (Below.trod laid_out (by kernel_rfl) (of_decide_eq_true (by kernel_rfl)) k1 bel lt1) trodAll_mk0)), rfl, bel.frame _, fun h => by cases h⟩
theorem patchOrder_said : Rows.PatchOrderSaid :=
 OpenClaim.holds_of_wide 8 Tryz.f8 rfl rfl rfl rfl rfl rfl rfl ⟨rfl, rfl, rfl, rfl, rfl⟩ rfl rfl rfl rfl rfl (by kernel_rfl) Tryz.func8 (by kernel_rfl)
  (of_decide_eq_true (by kernel_rfl)) (by unfold Func.isWrapper; first | (rw [if_pos (by decide +kernel)]; kernel_rfl) | (rw [if_neg (by decide +kernel)]; exact ⟨rfl, rfl⟩))
  (fun os started H enc _ => patchOrder_lifted os started H enc)
theorem patchOrder_holds : Rows.PatchOrderCardSaid :=
 Claim7.holds_tied_plain_at .later [] [.data, .data] true (true, "a5b5658e4295244dfd33ca341262ac0e53bd1c66653a9260470d657c4bf4a125") false
  patchOrder_said (fun _ h => by cases h) (by kernel_rfl) (fun _ h => by cases h) patchOrder_row_tie rfl ⟨rfl, rfl⟩ (by kernel_rfl) rfl
  (fun f fn hf hfn => by
   obtain rfl : f = 8 := Option.some.inj ((show Tryz.prog.funcNamed "graft/graftlaw08.PatchOrder" = some 8 by kernel_rfl).symm.trans hf) |>.symm
   obtain rfl : fn = Tryz.f8 := (Option.some.inj (Tryz.func8.symm.trans hfn)).symm
   exact ⟨by kernel_rfl, fun j t ht => by
    rw [Tryz.params8] at ht
    have hm : t ∈ ([22, 26] : List Nat) := by have := Array.mem_of_getElem? ht; simp at this ⊢; first | omega | (rcases this with h | h <;> simp [h]) | (rcases this with h | h | h <;> simp [h])
    have hall : (([22, 26] : List Nat).all fun u => !Tryz.prog.wantsStandIn u) = true := by kernel_rfl
    exact (show Tryz.prog.wantsStandIn t = false by simpa using List.all_eq_true.1 hall t hm)⟩)
  (by kernel_rfl)
end Go.Proofs.YtegddcklbmonfaaGreatDoor
