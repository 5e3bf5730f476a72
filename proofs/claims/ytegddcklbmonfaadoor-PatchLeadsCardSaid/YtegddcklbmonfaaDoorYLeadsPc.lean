/-
 Mathematics of the new file: the byte that belongs to an offset; it does not depend on the order of the commands.
-/
import Derived.Test.YtegddcklbmonfaaDoorYLeadsPa
import Derived.Test.YtegddcklbmonfaaDoorYLeadsPb
import Derived.Shelf.SlSortCmp.WholeK
import Derived.Shelf.SlicesG.Cmp
import Derived.Ground.SlsfProg
import Derived.Ground.SlgcProg
import Derived.Test.YtegddcklbmonfaaDoorProg
import Derived.WalkKit
/-
 Ranges over functions, and iterators, in the engine's terms.
-/
namespace Go.Proofs.YtegddcklbmonfaaDoor
set_option maxRecDepth 100000
set_option maxHeartbeats 2000000
open Go.Value (int slice)
set_option linter.unusedVariables false
set_option linter.unusedSimpArgs false
open Go Go.RowKit
section
variable {P : Program} {ops : Array Oper} {Q : Exit → Act → World → Prop} {n : Sz} {w0 v W w : World} {L L' : List (Nat × Value)} {H A B HC X : List Ent} {o : Oper} {rest : List Oper} {ex : Exit}
theorem St.self (h : St w0 H w) : St w H w := ⟨rfl, rfl, rfl, Nat.le_refl _, h.has, fun _ _ _ => rfl, h.apart⟩
theorem St.self1 (h : St w0 (A ++ B) w) : St w A w := ⟨rfl, rfl, rfl, Nat.le_refl _, fun e he => h.has e (List.mem_append.2 (.inl he)), fun _ _ _ => rfl, (List.pairwise_append.1 h.apart).1⟩
theorem St.over (h : St w0 (A ++ HC) v) (k : St v B w) (h1 : ∀ e ∈ B, ∀ d ∈ HC, e.g ≠ d.g) (h2 : ∀ d ∈ A, w0.heap.size ≤ d.g ∨ ∃ e ∈ B, e.g = d.g) : St w0 (B ++ HC) w := by
 refine ⟨k.os.trans h.os, k.tape.trans h.tape, k.output.trans h.output, Nat.le_trans h.size k.size, ?_, ?_, ?_⟩
 ·intro e he
  rcases List.mem_append.1 he with he | he
  ·exact k.has e he
  ·have hl := h.has e (List.mem_append.2 (.inr he))
   exact hl.of_block (k.old _ hl.lt (fun d hd => h1 d hd e he))
 ·intro b hb hneb
  have hbv := Nat.lt_of_lt_of_le hb h.size
  refine (k.old b hbv (fun e he => hneb e (List.mem_append.2 (.inl he)))).trans (h.old b hb ?_)
  intro d hd
  rcases List.mem_append.1 hd with hd | hd
  ·rcases h2 d hd with h2 | ⟨e, he, heg⟩
   ·omega
   ·rw [← heg]; exact hneb e (List.mem_append.2 (.inl he))
  ·exact hneb d (List.mem_append.2 (.inr hd))
 ·rw [List.pairwise_append]
  exact ⟨k.apart, (List.pairwise_append.1 h.apart).2.1, fun e he d hd => h1 e he d hd⟩
theorem St.dropAll : ∀ (X : List Ent), St w0 (X ++ H) w → (∀ e ∈ X, w0.heap.size ≤ e.g) → St w0 H w
 | [], h, _ => h
 | e :: X, h, hx => St.dropAll X (h.drop (hx e List.mem_cons_self)) fun d hd => hx d (List.mem_cons_of_mem _ hd)
abbrev qv := @St.dropAll
theorem St.besides {lo hi : Nat} (h : St w0 H v) (hb : Beside lo hi v w) (h1 : ∀ e ∈ H, e.g < lo ∨ hi ≤ e.g) (h2 : w0.heap.size ≤ lo) : St w0 H w :=
 ⟨hb.os.trans h.os, hb.tape.trans h.tape, hb.output.trans h.output, Nat.le_trans h.size hb.size,
  fun e he => (h.has e he).of_block (hb.block _ (h.has e he).lt (fun hc => by have := h1 e he; omega)),
  fun b hlt hne => (hb.block b (Nat.lt_of_lt_of_le hlt h.size) (fun hc => by omega)).trans (h.old b hlt hne), h.apart⟩
theorem gs_mem {Hi H0 : List Ent} (hgs : Hi.map (·.g) = H0.map (·.g)) : ∀ e ∈ Hi, ∃ d ∈ H0, d.g = e.g := fun e he => by
 have : e.g ∈ H0.map (·.g) := by rw [← hgs]; exact List.mem_map_of_mem he
 obtain ⟨d, hd, h⟩ := List.mem_map.1 this
 exact ⟨d, hd, h⟩
theorem wpIn_num {F : Fence} (hF : F.depth = none) {m m' : Nat} {c : Code} {a : Act} (h : c.wpIn F m P Q a w) : c.wpIn F m' P Q a w := fun b k cs h1 h2 _ =>
 h b k cs h1 h2 (fun d hd => by rw [hF] at hd; cases hd)
def mark (D : Nat) : Deferred := { target := .collected D, args := #[] }
def AxP (v : World) (La : Nat → List (Nat × Value)) (Ha : Nat → List Ent) (Hi : List Ent) (n : Sz) : Act → World → Prop := fun a W => ∃ y, v.heap.size ≤ y ∧ y ≤ W.heap.size ∧ Fr n (La y) a ∧ St v (Ha y ++ Hi) W
def RoundQ (y : Nat) (v : World) (C1 : Prop) (H1 : List Ent) (Cr : Prop) (Hr : List Ent) (idb : Nat) (Cb : Prop) (Hb : List Ent) : Exit → Act → World → Prop
 | .normal, _, W => C1 ∧ ∃ X, (∀ e ∈ X, y ≤ e.g) ∧ St v (X ++ H1) W
 | .ret, _, W => Cr ∧ ∃ X, (∀ e ∈ X, y ≤ e.g) ∧ St v (X ++ Hr) W
 | .exit id, _, W => id = idb ∧ Cb ∧ ∃ X, (∀ e ∈ X, y ≤ e.g) ∧ St v (X ++ Hb) W
 | _, _, _ => False
structure MarkAt (w0 W : World) (D : Nat) (gs : List Nat) : Prop where
 new : w0.heap.size ≤ D
 here : W.heap[D]? = some (.deferred (some []))
 ne : ∀ x ∈ gs, x ≠ D
theorem TE.ax {La : Nat → List (Nat × Value)} {Ha : Nat → List Ent} {Hi : List Ent} (y : Nat) (hy : v.heap.size ≤ y) (hy2 : ∀ w, St v H w → y ≤ w.heap.size) (hs : Sub (La y) L) (hH : ∀ w, St v H w → St v (Ha y ++ Hi) w) :
  TE (Exit.then (AxP v La Ha Hi n) (fun _ _ _ => False)) .normal n v L H := fun a w hf hst => ⟨y, hy, hy2 w hst, hf.sub hs, hH w hst⟩
theorem TE.roundN {y : Nat} {C1 Cr Cb : Prop} {H1 Hr Hb : List Ent} {idb : Nat} (hC : C1) (X : List Ent) (hX : ∀ e ∈ X, y ≤ e.g) (hH : ∀ w, St v H w → St v (X ++ H1) w) : TE (RoundQ y v C1 H1 Cr Hr idb Cb Hb) .normal n v L H := fun a w _ hs => ⟨hC, X, hX, hH w hs⟩
theorem TE.roundR {y : Nat} {C1 Cr Cb : Prop} {H1 Hr Hb : List Ent} {idb : Nat} (hC : Cr) (X : List Ent) (hX : ∀ e ∈ X, y ≤ e.g) (hH : ∀ w, St v H w → St v (X ++ Hr) w) : TE (RoundQ y v C1 H1 Cr Hr idb Cb Hb) .ret n v L H := fun a w _ hs => ⟨hC, X, hX, hH w hs⟩
theorem TE.roundB {y : Nat} {C1 Cr Cb : Prop} {H1 Hr Hb : List Ent} {idb : Nat} (hC : Cb) (X : List Ent) (hX : ∀ e ∈ X, y ≤ e.g) (hH : ∀ w, St v H w → St v (X ++ Hb) w) : TE (RoundQ y v C1 H1 Cr Hr idb Cb Hb) (.exit idb) n v L H := fun a w _ hs => ⟨rfl, hC, X, hX, hH w hs⟩
theorem TC.range {g : Operand} {p : Tmp} {assign body : Code} {gf : FuncId} {lb : List Value} {V : Nat → Value} {N c : Nat} {Cap : Nat → Prop}
  (hmd : n.md = .plain) (hds : n.ds = []) (hp : inside n (some p) = true) (hg : ev L g = some (.func (.func gf) #[] lb.toArray)) (hent : Enters P gf)
  (hit : ∀ w, St w0 H w → IterC Fence.wide 2 P gf lb.toArray (fun i => #[V i]) N c Cap w)
  (C : Nat → Prop) (Hi : Nat → List Ent) (HC : List Ent) (La : Nat → Nat → List (Nat × Value)) (Ha : Nat → Nat → List Ent)
  (Cr : Nat → Prop) (Hr : Nat → List Ent) (idb : Nat) (Cb : Nat → Prop) (Hb : Nat → List Ent)
  (hC0 : C 0) (h0 : ∀ w, St w0 H w → St w0 (Hi 0 ++ HC) w)
  (hgs : ∀ i, (Hi i).map (·.g) = (Hi 0).map (·.g)) (hgr : ∀ i, (Hr i).map (·.g) = (Hi 0).map (·.g)) (hgb : ∀ i, (Hb i).map (·.g) = (Hi 0).map (·.g))
  (hcap : ∀ w, St w0 H w → ∀ k, Cap k → k < w.heap.size ∧ ∀ e ∈ Hi 0, e.g ≠ k)
  (hHa : ∀ i y, ∀ e ∈ Ha i y, y ≤ e.g)
  (hassign : ∀ l i v, i < N → C i → St w0 (Hi i ++ HC) v → TC P (Exit.then (AxP v (La i) (Ha i) (Hi i) ⟨n.size, [], .inn (some l)⟩) (fun _ _ _ => False)) ⟨n.size, [], .inn (some l)⟩ v assign ((p, V i) :: L) (Hi i))
  (hbody : ∀ l i y v, i < N → C i → w0.heap.size ≤ y → y ≤ v.heap.size → St w0 (Ha i y ++ (Hi i ++ HC)) v →
   TC P (RoundQ y v (C (i + 1)) (Hi (i + 1)) (Cr (i + 1)) (Hr (i + 1)) idb (Cb (i + 1)) (Hb (i + 1))) ⟨n.size, [], .inn (some l)⟩ v body (La i y) (Ha i y ++ Hi i))
  (hdone : ∀ D W, C N → St w0 (Hi N ++ HC) W → MarkAt w0 W D ((Hi 0 ++ HC).map (·.g)) → TE Q .normal ⟨n.size, [mark D], .plain⟩ W L (Hi N ++ HC))
  (hret : ∀ D W i, i < N → Cr (i + 1) → St w0 (Hr (i + 1) ++ HC) W → MarkAt w0 W D ((Hi 0 ++ HC).map (·.g)) → TE Q .ret ⟨n.size, [mark D], .plain⟩ W L (Hr (i + 1) ++ HC))
  (hbrk : ∀ D W i, i < N → Cb (i + 1) → St w0 (Hb (i + 1) ++ HC) W → MarkAt w0 W D ((Hi 0 ++ HC).map (·.g)) → TE Q (.exit idb) ⟨n.size, [mark D], .plain⟩ W L (Hb (i + 1) ++ HC)) :
  TC P Q n w0 (.rangeFunc g #[p] assign body) L H := by
 intro a w hf hs
 have hall := h0 w hs
 have hltI : ∀ e ∈ Hi 0, e.g < w.heap.size := fun e he => (hall.has e (List.mem_append.2 (.inl he))).lt
 have hltC : ∀ e ∈ HC, e.g < w.heap.size := fun e he => (hall.has e (List.mem_append.2 (.inr he))).lt
 have ltG : ∀ {Hx : List Ent}, Hx.map (·.g) = (Hi 0).map (·.g) → ∀ e ∈ Hx, e.g < w.heap.size := fun hx e he => by
  obtain ⟨d, hd, h⟩ := gs_mem hx e he
  rw [← h]; exact hltI d hd
 have capG : ∀ {Hx : List Ent}, Hx.map (·.g) = (Hi 0).map (·.g) → ∀ k, Cap k → ∀ e ∈ Hx, e.g ≠ k := fun hx k hk e he => by
  obtain ⟨d, hd, h⟩ := gs_mem hx e he
  rw [← h]; exact (hcap w hs k hk).2 d hd
 have apG : ∀ {Hx : List Ent}, Hx.map (·.g) = (Hi 0).map (·.g) → ∀ e ∈ Hx, ∀ d ∈ HC, e.g ≠ d.g := fun hx e he d hd => by
  obtain ⟨e', he', h⟩ := gs_mem hx e he
  rw [← h]; exact (List.pairwise_append.1 hall.apart).2.2 e' he' d hd
 have hsz := hs.size
 rw [hmd]
 have fin : ∀ {W : World}, W.heap[w.heap.size]? = some (.deferred (some [])) → MarkAt w0 W w.heap.size ((Hi 0 ++ HC).map (·.g)) := fun hD => ⟨hsz, hD, fun x hx => by
  obtain ⟨e, he, rfl⟩ := List.mem_map.1 hx
  rcases List.mem_append.1 he with he | he
  ·have := hltI e he; omega
  ·have := hltC e he; omega⟩
 have frM : ∀ D, Fr ⟨n.size, [mark D], .plain⟩ L { a with defers := { target := .collected D, args := #[] } :: a.defers } := fun D => ⟨by show _ :: a.defers = _; rw [hf.1, hds]; rfl, hf.2⟩
 refine wpIn_wide.1 (wpIn_rangeFunc_it (F := Fence.wide) (n := 3) (w0 := w) rfl (by omega) (gf := gf) (lb := lb.toArray) (hf.eval hg) trivial (fun args w => run_call hent args w) (hit w hs) (Below.refl _ _) (fun k hk => (hcap w hs k hk).1) (fun _ => rfl)
  (fun i W => C i ∧ St w0 (Hi i ++ HC) W)
  (fun j i W => match j with
   | .ret => Cr i ∧ St w0 (Hr i ++ HC) W
   | .exit id => id = idb ∧ Cb i ∧ St w0 (Hb i ++ HC) W
   | _ => False)
  (fun i a W => ∃ y, w.heap.size + 2 + c ≤ y ∧ y ≤ W.heap.size ∧ Fr ⟨n.size, [], .plain⟩ (La i y) a ∧ C i ∧ St w0 (Ha i y ++ (Hi i ++ HC)) W)
  ?hI ?hIx ?hAx ⟨hC0, hall⟩ ?assign ?body ?done ?stop)
 case hI =>
  rintro i A B ⟨h1, h2⟩ hb
  refine ⟨h1, h2.besides hb (fun e he => ?_) hsz⟩
  rcases List.mem_append.1 he with he | he
  ·exact .inl (ltG (hgs i) e he)
  ·exact .inl (hltC e he)
 case hIx =>
  rintro j i A B h hb
  have step : ∀ {Hx : List Ent}, Hx.map (·.g) = (Hi 0).map (·.g) → St w0 (Hx ++ HC) A → St w0 (Hx ++ HC) B := fun hx h2 => h2.besides hb (fun e he => by
   rcases List.mem_append.1 he with he | he
   ·exact .inl (ltG hx e he)
   ·exact .inl (hltC e he)) hsz
  cases j with
  | ret => exact ⟨h.1, step (hgr i) h.2⟩
  | exit id => exact ⟨h.1, h.2.1, step (hgb i) h.2.2⟩
  | _ => exact h.elim
 case hAx =>
  rintro i a' A B ⟨y, hy, hyA, hfr, hC, h2⟩ hb
  refine ⟨y, hy, Nat.le_trans hyA hb.size, hfr, hC, h2.besides hb (fun e he => ?_) hsz⟩
  rcases List.mem_append.1 he with he | he
  ·exact .inr (Nat.le_trans hy (hHa i y e he))
  ·rcases List.mem_append.1 he with he | he
   ·exact .inl (ltG (hgs i) e he)
   ·exact .inl (hltC e he)
 case assign =>
  rintro l i W hiN ⟨hC, hSt⟩ hWs
  have hfr : Fr ⟨n.size, [], .inn (some l)⟩ ((p, V i) :: L) { tmps := ((#[p] : Array Tmp).zip #[V i]).foldl (fun t (p, v) => t.setIfInBounds p v) a.tmps, defers := [] } := by
   have h := hf.put (some p) (V i) hp
   refine ⟨rfl, ?_, ?_⟩
   ·simpa [Act.put] using h.2.1
   ·have h3 := h.2.2
    unfold Proofs.YtegddcklbmonfaaDoor.put at h3
    simpa [Act.put] using h3
  have h := hassign l i W hiN hC hSt _ W hfr hSt.self1
  refine wpIn_mono (wpIn_num (F := Fence.wide.inRound l) rfl (m := 2) h) ?_
  intro e a1 W1 hq
  cases e with
  | normal =>
   obtain ⟨y, hy, hyW, hfr1, hst⟩ := hq
   refine ⟨⟨y, by omega, hyW, ⟨hfr1.1, hfr1.2⟩, hC, ?_⟩, hst.size, ?_⟩
   ·have := St.over hSt hst (fun e he d hd => by
     rcases List.mem_append.1 he with he | he
     ·have h1 := hHa i y e he
      have h2 := hltC d hd
      omega
     ·exact apG (hgs i) e he d hd) (fun d hd => .inr ⟨d, List.mem_append.2 (.inr hd), rfl⟩)
    rw [List.append_assoc] at this
    exact this
   ·intro k hk hkW
    refine hst.old k hkW fun e he => ?_
    rcases List.mem_append.1 he with he | he
    ·have h1 := hHa i y e he
     omega
    ·rcases hk with hk | hk
     ·have := ltG (hgs i) e he; omega
     ·exact capG (hgs i) k hk e he
  | _ => exact hq.elim
 case body =>
  rintro l i a1 W hiN ⟨y, hy, hyW, hfr, hC, hSt⟩ hWs
  have hSt' : St w0 ((Ha i y ++ Hi i) ++ HC) W := by rw [List.append_assoc]; exact hSt
  have h := hbody l i y W hiN hC (by omega) hyW hSt a1 W ⟨hfr.1, hfr.2⟩ hSt'.self1
  refine wpIn_mono (wpIn_num (F := Fence.wide.inRound l) rfl (m := 2) h) ?_
  have keep : ∀ {Hx X : List Ent} {W' : World}, Hx.map (·.g) = (Hi 0).map (·.g) → (∀ e ∈ X, y ≤ e.g) → St W (X ++ Hx) W' →
    Holds (fun k => (w.heap.size ≤ k ∧ k < w.heap.size + 2 + c) ∨ Cap k) W W' ∧ w.heap.size + 2 + c ≤ W'.heap.size ∧ St w0 (Hx ++ HC) W' := fun {Hx X W'} hx hX hst => by
   refine ⟨fun k hk hkW => hst.old k hkW fun e he => ?_, Nat.le_trans hWs hst.size, ?_⟩
   ·rcases List.mem_append.1 he with he | he
    ·have h1 := hX e he
     rcases hk with hk | hk
     ·omega
     ·have := (hcap w hs k hk).1; omega
    ·rcases hk with hk | hk
     ·have := ltG hx e he; omega
     ·exact capG hx k hk e he
   ·have := St.over hSt' hst (fun e he d hd => by
     rcases List.mem_append.1 he with he | he
     ·have h1 := hX e he
      have h2 := hltC d hd
      omega
     ·exact apG hx e he d hd) (fun d hd => by
     rcases List.mem_append.1 hd with hd | hd
     ·have := hHa i y d hd
      exact .inl (by omega)
     ·have hdm : d.g ∈ Hx.map (·.g) := by rw [hx, ← hgs i]; exact List.mem_map_of_mem hd
      obtain ⟨e, he, h⟩ := List.mem_map.1 hdm
      exact .inr ⟨e, List.mem_append.2 (.inr he), h⟩)
    rw [List.append_assoc] at this
    exact qv X this fun e he => by have := hX e he; omega
  intro e a2 W2 hq
  cases e with
  | normal =>
   obtain ⟨h1, X, hX, h2⟩ := hq
   have ⟨k1, kz, k2⟩ := keep (hgs (i + 1)) hX h2
   exact ⟨k1, kz, h1, k2⟩
  | ret =>
   obtain ⟨h1, X, hX, h2⟩ := hq
   have ⟨k1, kz, k2⟩ := keep (hgr (i + 1)) hX h2
   exact ⟨k1, kz, h1, k2⟩
  | exit id =>
   obtain ⟨h0, h1, X, hX, h2⟩ := hq
   have ⟨k1, kz, k2⟩ := keep (hgb (i + 1)) hX h2
   exact ⟨k1, kz, h0, h1, k2⟩
  | _ => exact hq.elim
 case done =>
  rintro W ⟨h1, h2⟩ hD
  exact hdone _ W h1 h2 (fin hD) _ W (frM _) h2.self
 case stop =>
  rintro j i W hiN h hD
  cases j with
  | ret => exact wpIn_ret (hret _ W i hiN h.1 h.2 (fin hD) _ W (frM _) h.2.self)
  | exit id =>
   obtain ⟨rfl, h1, h2⟩ := h
   exact wpIn_exit (hbrk _ W i hiN h1 h2 (fin hD) _ W (frM _) h2.self)
  | _ => exact h.elim
theorem calls_fromM {f : FuncId} {fn : Func} {c : Code} {args : List Value} {R : Ending → World → Prop} {N : Nat} (hf : P.funcs[f]? = some fn) (hb : fn.body = some c) (hN : fn.ntmps = N) (hl : args.length ≤ N)
  (h : TC P (bodyPostM Fence.wide 2 P fn R) ⟨N, [], .plain⟩ w c (args.zipIdx.map fun x => (x.2, x.1)) []) : Calls P f args.toArray w R := by
 subst hN
 exact callsIn_wide.1 (callsIn_of_wp_marks (n := 2) hf hb trivial (wpIn_wide.2 (h _ w (fr_args hl) (St.refl w))) rfl)
theorem callsIn_from {f : FuncId} {fn : Func} {c : Code} {args : List Value} {R : Ending → World → Prop} {N : Nat} (hf : P.funcs[f]? = some fn) (hb : fn.body = some c) (hN : fn.ntmps = N) (hl : args.length ≤ N)
  (h : TC P (bodyPost P fn R) ⟨N, [], .inn none⟩ w c (args.zipIdx.map fun x => (x.2, x.1)) []) : CallsIn Fence.wide 2 P f args.toArray w R := by
 subst hN
 exact callsIn_of_wp hf hb trivial (h _ w (fr_args hl) (St.refl w)) rfl
theorem TE.markR {fn : Func} {R : Ending → World → Prop} {D : Nat} {H0 H : List Ent} {gs : List Nat} (hm : MarkAt w0 W D gs) (hW : St w0 H0 W) (hgs : ∀ e ∈ H0, w0.heap.size ≤ e.g) (hov : ∀ e ∈ H, W.heap.size ≤ e.g ∨ e.g ∈ gs)
  (h : TE (bodyPost P fn R) ex ⟨n.size, [], .plain⟩ w0 L H) (hex : ex = .ret ∨ ex = .normal) : TE (bodyPostM Fence.wide 2 P fn R) ex ⟨n.size, [mark D], .plain⟩ W L H := by
 intro a w hf hs
 have hDW : D < W.heap.size := (Array.getElem?_eq_some_iff.1 hm.here).1
 have hne : ∀ e ∈ H, e.g ≠ D := fun e he => by
  rcases hov e he with h1 | h1
  ·omega
  ·exact hm.ne _ h1
 have hD : w.heap[D]? = some (.deferred (some [])) := (hs.old D hDW hne).trans hm.here
 have h1 : St w0 H w := by
  have := St.over (A := H0) (HC := []) (by rw [List.append_nil]; exact hW) hs (fun _ _ d hd => by cases hd) (fun d hd => .inl (hgs d hd))
  rwa [List.append_nil] at this
 have h2 : St w0 H (w.putObj D (.deferred none)) := ⟨h1.os, h1.tape, h1.output, by simpa using h1.size, fun e he => (h1.has e he).of_block (World.putObj_heap_other (hne e he)),
  fun b hb hneb => (World.putObj_heap_other (by have := hm.new; omega)).trans (h1.old b hb hneb), h1.apart⟩
 have h3 := h { a with defers := [] } _ ⟨rfl, hf.2⟩ h2
 have key : LeavesInM Fence.wide 2 P fn a.tmps R a.defers .returning w := by
  rw [hf.1]
  refine ⟨by simp, .inl ⟨D, _, rfl, run_takeDeferred hD, ?_⟩⟩
  rcases hex with rfl | rfl
  ·exact h3.2
  ·exact h3.2
 rcases hex with rfl | rfl
 ·exact key
 ·exact key
theorem TL.yield {l t : Nat} {xs : List Operand} {vs : List Value} {ts : Array TypeId} {T U : World → Prop} (hmd : n.md = .inn none) (hg : Wants n ops L o) (hi : inside n o.dst = true)
  (ho : o.op = .call { callee := .value (.tmp t), args := xs.toArray, argTypes := ts }) (ht : look L t = some (.func (.yield l) #[] #[])) (hx : evs L xs = some vs)
  (hy : ∀ w, St w0 H w → YieldAt Fence.wide 1 P l vs.toArray w fun e w' => (e = .returned (.bool true) ∧ T w') ∨ (e = .returned (.bool false) ∧ U w'))
  (h1 : ∀ v, T v → TL P ops Q n v rest (put L o.dst (.bool true)) []) (h2 : ∀ v, U v → TL P ops Q n v rest (put L o.dst (.bool false)) []) : TL P ops Q n w0 (o :: rest) L H := by
 intro a w hf hs
 obtain ⟨fn, tmps, assign, body, hyl, hr⟩ := hy w hs
 have h1' : ∀ v, T v → wpL n.md P ops Q rest (a.put o.dst (.bool true)) v := fun v hv => h1 v hv _ v (hf.put o.dst _ hi) (St.refl v)
 have h2' : ∀ v, U v → wpL n.md P ops Q rest (a.put o.dst (.bool false)) v := fun v hv => h2 v hv _ v (hf.put o.dst _ hi) (St.refl v)
 rw [hmd] at h1' h2' ⊢
 have hm := hf.evals hx
 have hev : a.eval (.tmp t) = .func (.yield l) #[] #[] := hf.eval (x := .tmp t) ht
 have hrun : (execOp a.eval o).run P w = .ok (.round l fn tmps assign body) w := by
  simp only [execOp, ho, resolve, hev, Deferred.ofValue, Sem.run_bind, Sem.run_pure, Result.andThen_ok, List.map_toArray, hm, invoke]
  simpa using hyl
 refine wpListIn_step fun K hK => ?_
 rw [if_pos (hg a hf)]
 refine ⟨fun _ _ => trivial, ?_⟩
 have hsem : (o.semAt (wideAt none).round a.eval).run P w = .ok (.round l fn tmps assign body) w := hrun
 rw [hsem]
 refine ⟨fun hd => by simp [wideAt, Fence.wide] at hd, ?_⟩
 refine RoundIn.mono (R := fun e w' => (e = .returned (.bool true) ∧ T w') ∨ (e = .returned (.bool false) ∧ U w')) ?_ ?_
 ·exact hr
 ·rintro e w' (⟨rfl, hT⟩ | ⟨rfl, hU⟩)
  ·exact hK _ _ (h1' w' hT)
  ·exact hK _ _ (h2' w' hU)
def BackW {ι : Type} (n : Sz) (Wi : ι → World) (Li : ι → List (Nat × Value)) (Hi : ι → List Ent) (μ : ι → Nat) (C : ι → Prop) (m : Nat) (a : Act) (w : World) : Prop :=
 ∃ i, μ i < m ∧ C i ∧ Fr n (Li i) a ∧ St (Wi i) (Hi i) w
theorem TE.backW {ι : Type} {Wi : ι → World} {Li : ι → List (Nat × Value)} {Hi : ι → List Ent} {μ : ι → Nat} {C : ι → Prop} {m : Nat} (i : ι) (hμ : μ i < m) (hC : C i) (hs : Sub (Li i) L) (hH : ∀ w, St w0 H w → St (Wi i) (Hi i) w) :
  TE (Exit.then (BackW n Wi Li Hi μ C m) Q) .normal n w0 L H := fun a w hf hst => ⟨i, hμ, hC, hf.sub hs, hH w hst⟩
theorem TC.loopW {ι : Type} (Wi : ι → World) (Li : ι → List (Nat × Value)) (Hi : ι → List Ent) (μ : ι → Nat) (C : ι → Prop) (i0 : ι) {c : Code} (hC : C i0) (hs : Sub (Li i0) L) (hH : ∀ w, St w0 H w → St (Wi i0) (Hi i0) w)
  (round : ∀ i, C i → TC P (Exit.then (BackW n Wi Li Hi μ C (μ i)) Q) n (Wi i) c (Li i) (Hi i)) : TC P Q n w0 (.loop c) L H := by
 intro a w hf hst
 let p : Act → World → Nat → Prop := fun a w m => ∃ i, μ i = m ∧ C i ∧ Fr n (Li i) a ∧ St (Wi i) (Hi i) w
 let M : Act → World → Nat := fun a w => leastOf (p a w)
 have hM : ∀ a w i, C i → Fr n (Li i) a → St (Wi i) (Hi i) w → M a w ≤ μ i := fun a w i h1 h2 h3 => (leastOf_spec (p := p a w) ⟨i, rfl, h1, h2, h3⟩).2 _ ⟨i, rfl, h1, h2, h3⟩
 refine wpn_loop (fun a w => ∃ i, C i ∧ Fr n (Li i) a ∧ St (Wi i) (Hi i) w) M ⟨i0, hC, hf.sub hs, hH w hst⟩ ?_
 rintro a w ⟨i, h1, h2, h3⟩
 obtain ⟨i', e', c', f', s'⟩ := (leastOf_spec (p := p a w) ⟨i, rfl, h1, h2, h3⟩).1
 have hMe : M a w = μ i' := e'.symm
 refine wpn_mono (round i' c' a w f' s') ?_
 intro e a2 w2 hq
 cases e with
 | normal =>
  obtain ⟨j, hj, hCj, hfj, hsj⟩ := hq
  refine ⟨⟨j, hCj, hfj, hsj⟩, ?_⟩
  have := hM a2 w2 j hCj hfj hsj
  omega
 | _ => exact hq
theorem run_enterF {f : FuncId} {t : Nat} {lb : List Value} {xs : List Operand} {ts : Array TypeId} {vs : List Value} {a : Act} {w : World} (h : Enters P f) (ho : o.op = .call { callee := .value (.tmp t), args := xs.toArray, argTypes := ts }) (hf : Fr n L a)
  (ht : look L t = some (.func (.func f) #[] lb.toArray)) (hx : evs L xs = some vs) : (execOp a.eval o).run P w = .ok (.enter f (vs ++ lb).toArray) w := by
 have hm := hf.evals hx
 have hev : a.eval (.tmp t) = .func (.func f) #[] lb.toArray := hf.eval (x := .tmp t) ht
 simp only [execOp, ho, resolve, hev, Deferred.ofValue, Sem.run_bind, Sem.run_pure, Result.andThen_ok, List.map_toArray, hm, invoke]
 simp [run_call h]
theorem TL.callF {ι : Type} {f : FuncId} {t : Nat} {lb : List Value} {xs : List Operand} {ts : Array TypeId} {vs : List Value} {V : ι → Value} {R : ι → Prop} {H' : ι → List Ent} (hg : Wants n ops L o) (hi : inside n o.dst = true) (h : Enters P f)
  (ho : o.op = .call { callee := .value (.tmp t), args := xs.toArray, argTypes := ts }) (ht : look L t = some (.func (.func f) #[] lb.toArray)) (hx : evs L xs = some vs)
  (hc : ∀ w, St w0 H w → Calls P f (vs ++ lb).toArray w fun e w' => ∃ i, e = .returned (V i) ∧ R i ∧ St w0 (H' i) w')
  (hr : ∀ i, R i → TL P ops Q n w0 rest (put L o.dst (V i)) (H' i)) : TL P ops Q n w0 (o :: rest) L H :=
 fun a w hf hs => wpL_wants hg.nd (hg a hf) fun K hK => by
  unfold Oper.wp; rw [run_enterF h ho hf ht hx]
  refine (hc w hs).mono ?_
  rintro e w' ⟨i, rfl, hR, hs'⟩
  exact hK _ _ (hr i hR _ _ (hf.put o.dst _ hi) hs')
theorem TL.call0F {f : FuncId} {t : Nat} {lb : List Value} {xs : List Operand} {ts : Array TypeId} {vs : List Value} {u : Value} (hg : Wants n ops L o) (hi : inside n o.dst = true) (h : Enters P f)
  (ho : o.op = .call { callee := .value (.tmp t), args := xs.toArray, argTypes := ts }) (ht : look L t = some (.func (.func f) #[] lb.toArray)) (hx : evs L xs = some vs)
  (hc : ∀ w, St w0 H w → Calls P f (vs ++ lb).toArray w fun e w' => e = .returned u ∧ St w [] w')
  (hr : TL P ops Q n w0 rest (put L o.dst u) H) : TL P ops Q n w0 (o :: rest) L H :=
 TL.callF (ι := Unit) (V := fun _ => u) (R := fun _ => True) (H' := fun _ => H) hg hi h ho ht hx (fun w hs => (hc w hs).mono fun e w' ⟨he, hw⟩ => ⟨(), he, trivial, hs.call' hw⟩) fun _ _ => hr
theorem Gets.makeFunc {fn : Fn} {xs ys : List Operand} {us vs : List Value} (ho : o.op = .makeFunc fn xs.toArray ys.toArray) (hx : evs L xs = some us) (hy : evs L ys = some vs) : Gets P n w0 o L H (.func fn us.toArray vs.toArray) := fun a w hf hs => by
 have h1 := hf.evals hx
 have h2 := hf.evals hy
 simp only [execOp, ho, List.map_toArray, h1, h2]
 rfl
end
/-
 A region that draws its order, with operations that change what the region or the call has made: kind 0 reads nothing that is changed or made, kind 3 makes blocks, kind 7 reads or changes what is made.
-/
section
variable {P : Program} {ops : Array Oper} {md : Region.Mode} {w0 : World} {HB : List Ent}
end
section
variable {P : Program} {ops : Array Oper} {Q : Exit → Act → World → Prop} {n : Sz} {w0 : World} {L L' : List (Nat × Value)} {HB X D : List Ent}
variable {o : Oper} {rest : List Oper} {v u : Value} {x y z : Operand} {k m j : Nat} {t t' e : TypeId} {ks : List Nat} {kd : IntKind} {r : Value → List Ent → Prop} {rs : List (Value → List Ent → Prop)}
end
/-
 A slice of the call's own whose elements have several cells each: 'append' onto it, in the text's order and in a region that draws its order.
-/
section
variable {P : Program} {ops : Array Oper} {Q : Exit → Act → World → Prop} {n : Sz} {w0 : World} {L L' : List (Nat × Value)} {H HB X X0 : List Ent}
variable {o : Oper} {rest : List Oper} {v u : Value} {x y z : Operand} {k m j : Nat} {t t' e : TypeId} {ks : List Nat} {kd : IntKind} {r : Value → List Ent → Prop} {rs : List (Value → List Ent → Prop)}
def OwnS (N : Nat) (t : TypeId) (s : Nat) (v : Value) (n : Nat) (cs : List Value) (He : List Ent) : Prop :=
 cs.length = n * s ∧ ((v = .slice none 0 0 ∧ n = 0 ∧ He = []) ∨ ∃ g cap, v = .slice (some ⟨g, 0, none⟩) n cap ∧ He = [⟨g, t, cs, cap * s⟩] ∧ N ≤ g ∧ n ≤ cap ∧ cap ≤ maxLen)
theorem OwnS.nil (N : Nat) (t : TypeId) (s : Nat) : OwnS N t s (.slice none 0 0) 0 [] [] := ⟨by simp, .inl ⟨rfl, rfl, rfl⟩⟩
theorem OwnS.mono {N N' s nn : Nat} {cs : List Value} {He : List Ent} (h : OwnS N' t s v nn cs He) (hN : N ≤ N') : OwnS N t s v nn cs He := by
 refine ⟨h.1, ?_⟩
 rcases h.2 with h | ⟨g, cap, h1, h2, h3, h4⟩
 ·exact .inl h
 ·exact .inr ⟨g, cap, h1, h2, Nat.le_trans hN h3, h4⟩
theorem OwnS.new {N s nn : Nat} {cs : List Value} {He : List Ent} (h : OwnS N t s v nn cs He) : ∀ e ∈ He, N ≤ e.g := by
 rcases h.2 with ⟨_, _, rfl⟩ | ⟨g, cap, _, rfl, hN, _⟩
 ·intro e he; cases he
 ·intro e he; rw [List.mem_singleton.1 he]; exact hN
theorem OwnS.form {N s nn : Nat} {cs : List Value} {He : List Ent} (h : OwnS N t s v nn cs He) : ∃ A c, v = .slice A nn c ∧ nn ≤ c ∧ c ≤ 9223372036854775807 := by
 rcases h.2 with ⟨rfl, rfl, rfl⟩ | ⟨g, cap, rfl, rfl, hN, hc, hm⟩
 ·exact ⟨none, 0, rfl, Nat.le_refl _, by omega⟩
 ·exact ⟨_, cap, rfl, hc, by unfold maxLen at hm; omega⟩
theorem OwnS.at0 {N s nn m c : Nat} {A : Option Addr} {cs : List Value} {He : List Ent} (h : OwnS N t s (.slice A m c) nn cs He) (hm : 0 < nn) : ∃ g, A = some ⟨g, 0, none⟩ ∧ m = nn ∧ He = [⟨g, t, cs, c * s⟩] ∧ N ≤ g ∧ nn ≤ c := by
 rcases h.2 with ⟨_, h2, _⟩ | ⟨g, cap, h1, h2, h3, h4, _⟩
 ·omega
 ·cases h1; exact ⟨g, rfl, rfl, h2, h3, h4⟩
theorem OwnS.row {w : World} {N s nn : Nat} {cs : List Value} {He : List Ent} (h : OwnS N t s v nn cs He) (hs : ∀ e ∈ He, e.lies w) : w.ownsRow N t s v nn cs := by
 refine ⟨h.1, ?_⟩
 rcases h.2 with ⟨rfl, rfl, rfl⟩ | ⟨g, cap, rfl, rfl, hN, hc, hm⟩
 ·exact .inl ⟨rfl, rfl⟩
 ·obtain ⟨cur, h1, h2, h3⟩ := hs _ (List.mem_singleton.2 rfl)
  refine .inr ⟨g, cap, cur, rfl, hN, h1, hc, hm, h2, ?_⟩
  rw [← h.1]
  apply List.ext_getElem?
  intro i
  simp only [List.getElem?_take]
  by_cases hi : i < cs.length
  ·rw [if_pos hi]
   have := h3 i _ (List.getElem?_eq_getElem hi)
   rw [List.getElem?_eq_getElem hi, Array.getElem?_toList]; exact this
  ·rw [if_neg hi, List.getElem?_eq_none (by omega)]
theorem ownS_of_row {w : World} {N s nn : Nat} {cs : List Value} (h : w.ownsRow N t s v nn cs) : ∃ He, OwnS N t s v nn cs He ∧ (He = [] ∨ ∃ e, He = [e] ∧ e.lies w ∧ N ≤ e.g ∧ v.ownBlock = some e.g) := by
 rcases h.2 with ⟨rfl, rfl⟩ | ⟨g, cap, cur, rfl, hN, h1, hc, hm, hsz, ht⟩
 ·exact ⟨[], ⟨h.1, .inl ⟨rfl, rfl, rfl⟩⟩, .inl rfl⟩
 ·refine ⟨[⟨g, t, cs, cap * s⟩], ⟨h.1, .inr ⟨g, cap, rfl, rfl, hN, hc, hm⟩⟩, .inr ⟨_, rfl, ⟨cur, h1, hsz, ?_⟩, hN, rfl⟩⟩
  intro i u hu
  have hi : i < cs.length := (List.getElem?_eq_some_iff.1 hu).1
  have h2 : (cur.toList.take (nn * s))[i]? = some u := by rw [ht]; exact hu
  rw [← h.1] at h2
  simpa [List.getElem?_take, hi] using h2
def SrcV (w : World) (As : Option Addr) (m : Nat) (news : List Value) : Prop := (As = none ∧ m = 0) ∨ ∃ a, As = some a ∧ ∀ j u, news[j]? = some u → w.cell? (a.add j) = some u
theorem run_append_none {w : World} {s nn bytes sc : Nat} {N : Nat} {cs : List Value} {He : List Ent} {zv : Value} {ty : TypeId} (h1 : P.underlying t = some (.slice e)) (hz : (P.info? e).map (fun i => (i.zero, i.size, i.bytes)) = some (some zv, s, bytes)) (h : OwnS N e s v nn cs He) :
  (Builtin.append_ #[t, t] ty #[v, .slice none 0 sc]).run P w = .ok v w := by
 obtain ⟨i, hi1, hi2⟩ := Option.map_eq_some_iff.1 hz
 rcases h.2 with ⟨rfl, rfl, rfl⟩ | ⟨g, cap, rfl, rfl, hN, hc, hm⟩
 ·simp [Builtin.append_, Sem.run_bind, run_under h1, sizeOf, typeInfo, hi1, Builtin.firstCells, Builtin.lenOf]
 ·simp [Builtin.append_, Sem.run_bind, run_under h1, sizeOf, typeInfo, hi1, Builtin.firstCells, Builtin.lenOf, storeCells, hc]
theorem run_appendS {w : World} {As : Option Addr} {s nn m sc bytes N : Nat} {cs news : List Value} {He : List Ent} {zv : Value} {ty : TypeId} (h1 : P.underlying t = some (.slice e)) (hz : (P.info? e).map (fun i => (i.zero, i.size, i.bytes)) = some (some zv, s, bytes)) (hzc : zv.cells.size = s) (hs0 : 0 < s)
  (hown : OwnS N e s v nn cs He) (hs : St w0 (H ++ He) w) (hN : N ≤ w0.heap.size) (hN2 : w0.heap.size ≤ N) (hl : news.length = m * s) (hsrc : SrcV w As m news) (h1c : ∀ u ∈ news, u.oneCell' = true) (h63 : nn + m ≤ maxLen) (hbytes : (nn + m) * bytes ≤ 140737488355328) (hsc : As = none → sc = sc) :
  ∃ v' w' He', (Builtin.append_ #[t, t] ty #[v, .slice As m sc]).run P w = .ok v' w' ∧ OwnS N e s v' (nn + m) (cs ++ news) He' ∧ St w0 (H ++ He') w' := by
 obtain rfl : N = w0.heap.size := by omega
 rcases hsrc with ⟨rfl, rfl⟩ | ⟨a, rfl, hcells⟩
 ·have hn : news = [] := List.length_eq_zero_iff.1 (by rw [hl]; simp)
  subst hn
  exact ⟨v, w, He, run_append_none h1 hz hown, by rw [List.append_nil, Nat.add_zero]; exact hown, hs⟩
 ·obtain ⟨i, hi1, hi2⟩ := Option.map_eq_some_iff.1 hz
  simp only [Prod.mk.injEq] at hi2
  obtain ⟨hz1, hz2, hz3⟩ := hi2
  have hrow := hown.row (w := w) hs.right
  obtain ⟨v', w', hrun, hrow', hgrown, hblk0, h6⟩ := run_append_own_at (P := P) w w0.heap.size t ty e i zv s bytes h1 hi1 hz1 hz2 hz3 hzc hs0 v nn cs hrow a m sc news hl hcells h1c h63 hbytes hs.size
  obtain ⟨He', hown', hHe⟩ := ownS_of_row hrow'
  refine ⟨v', w', He', hrun, hown', St.regrow hs hgrown ?_ ?_ ?_ ?_⟩
  ·rcases hown.2 with ⟨rfl, _, rfl⟩ | ⟨g, cap, rfl, rfl, _⟩
   ·simp
   ·simp [Value.ownBlock]
  ·rcases hown.2 with ⟨rfl, _, rfl⟩ | ⟨g, cap, rfl, rfl, hN, _⟩
   ·simp [Value.ownBlock]
   ·simp only [Value.ownBlock]; rintro b hb; cases hb; exact hN
  ·rcases hown.2 with ⟨rfl, _, rfl⟩ | ⟨g, cap, rfl, rfl, hN, _⟩
   ·simp [Value.ownBlock]
   ·intro c hc heq
    simp only [Value.ownBlock, Option.some.injEq] at heq
    exact (List.pairwise_append.1 hs.apart).2.2 c hc _ (List.mem_singleton.2 rfl) heq
  ·rcases hHe with h | ⟨d, h, hd, hdN, hdv⟩
   ·exact .inl h
   ·refine .inr ⟨d, h, hd, hdN, ?_⟩
    rcases h6 with hb | hb
    ·left; rw [← hdv, hb]
    ·right; have := Option.some.inj (hb.symm.trans hdv); omega
theorem TL.appendS {As : Option Addr} {s nn sc bytes : Nat} {cs news : List Value} {He : List Ent} {zv : Value} (hg : Wants n ops L o) (hi' : inside n o.dst = true) (ho : o.op = .call { callee := .builtin .append, args := #[x, y], argTypes := #[t, t] })
  (h1 : P.underlying t = some (.slice e)) (hz : (P.info? e).map (fun i => (i.zero, i.size, i.bytes)) = some (some zv, s, bytes)) (hzc : zv.cells.size = s) (hs0 : 0 < s)
  (hx : ev L x = some v) (hy : ev L y = some (.slice As m sc)) (hown : OwnS w0.heap.size e s v nn cs He) (hl : news.length = m * s) (hsrc : ∀ w, St w0 (H ++ He) w → SrcV w As m news) (h1c : ∀ u ∈ news, u.oneCell' = true)
  (h63 : nn + m ≤ maxLen) (hbytes : (nn + m) * bytes ≤ 140737488355328)
  (hr : ∀ v' He', OwnS w0.heap.size e s v' (nn + m) (cs ++ news) He' → TL P ops Q n w0 rest (put L o.dst v') (H ++ He')) : TL P ops Q n w0 (o :: rest) L (H ++ He) :=
 fun a w hf hs => wpL_wants hg.nd (hg a hf) fun K hK => by
  obtain ⟨v', w', He', hrun, hown', hst⟩ := run_appendS (P := P) (t := t) (ty := o.type) (sc := sc) h1 hz hzc hs0 hown hs (Nat.le_refl _) (Nat.le_refl _) hl (hsrc w hs) h1c h63 hbytes (fun _ => rfl)
  have hrun' : (execOp a.eval o).run P w = .ok (.value v') w' := by
   simp only [execOp, ho, resolve, invoke, builtin, Sem.run_bind, Sem.run_pure, Result.andThen_ok, List.map_toArray, List.map_cons, List.map_nil, hf.eval hx, hf.eval hy, hrun]
  unfold Oper.wp; rw [hrun']
  exact hK _ _ (hr v' He' hown' _ _ (hf.put o.dst _ hi') hst)
end
theorem lies_srcV {w : World} {g t tot m : Nat} {cs : List Value} (h : Ent.lies ⟨g, t, cs, tot⟩ w) : SrcV w (some ⟨g, 0, none⟩) m cs := .inr ⟨_, rfl, fun j u hu => by
 rw [addr_add, Nat.zero_add]; exact h.cell hu⟩
/-
 Commands in a slice of the call's own.
-/
def flatC (Cs : List CV) : List Value := Cs.flatMap cellsC
theorem cellsC_len (x : CV) : (cellsC x).length = 5 := rfl
theorem flatC_len (Cs : List CV) : (flatC Cs).length = Cs.length * 5 := by
 induction Cs with
 | nil => rfl
 | cons x l ih => unfold flatC at *; rw [List.flatMap_cons, List.length_append, ih, cellsC_len, List.length_cons]; omega
theorem flatC_app (Cs Es : List CV) : flatC (Cs ++ Es) = flatC Cs ++ flatC Es := by unfold flatC; rw [List.flatMap_append]
theorem flatC_one (x : CV) : flatC [x] = cellsC x := by unfold flatC; simp
theorem flatC_get : ∀ {Cs : List CV} {i : Nat} {x : CV} {j : Nat} {u : Value}, Cs[i]? = some x → (cellsC x)[j]? = some u → (flatC Cs)[5 * i + j]? = some u
 | [], i, x, j, u, h, _ => by simp at h
 | y :: l, 0, x, j, u, h, hu => by
  simp at h; subst h
  have hj : j < 5 := by have := (List.getElem?_eq_some_iff.1 hu).1; rw [cellsC_len] at this; exact this
  show (flatC ([y] ++ l))[5 * 0 + j]? = some u
  rw [flatC_app, flatC_one, List.getElem?_append_left (by rw [cellsC_len]; omega), Nat.mul_zero, Nat.zero_add]; exact hu
 | y :: l, i + 1, x, j, u, h, hu => by
  simp at h
  show (flatC ([y] ++ l))[5 * (i + 1) + j]? = some u
  rw [flatC_app, flatC_one, List.getElem?_append_right (by rw [cellsC_len]; omega), cellsC_len]
  have := flatC_get (Cs := l) h hu
  rw [← this]; congr 1; omega
theorem flatC_one' (Cs : List CV) : ∀ u ∈ flatC Cs, u.oneCell' = true := fun u hu => by
 unfold flatC at hu
 obtain ⟨x, _, hx⟩ := List.mem_flatMap.1 hu
 simp only [cellsC, List.mem_cons, List.not_mem_nil, or_false] at hx
 rcases hx with rfl | rfl | rfl | rfl | rfl <;> rfl
theorem OwnS.srcC {N m c : Nat} {A : Option Addr} {t : TypeId} {Cs : List CV} {He : List Ent} {w : World} (h : OwnS N t 5 (.slice A m c) m (flatC Cs) He) (hs : ∀ e ∈ He, e.lies w) : SrcC w A m Cs := by
 have hl : Cs.length = m := by have := h.1; rw [flatC_len] at this; omega
 refine ⟨hl, ?_⟩
 rcases h.2 with ⟨h1, h2, rfl⟩ | ⟨g, cap, h1, rfl, hN, hc, hm⟩
 ·exact .inl h2
 ·cases h1
  have hlie := hs _ (List.mem_singleton.2 rfl)
  refine .inr ⟨g, 0, rfl, hlie.lt, fun i x hx j u hu => ?_⟩
  rw [show 0 + 5 * i + j = 5 * i + j by omega]
  exact hlie.cell (flatC_get hx hu)
/-
 Insertion: where a command is put into a sorted list of commands.
-/
structure WS where
 i : Nat
 v : Value
 Es : List CV
 He : List Ent
def leC (x y : CV) : Prop := x.t ≤ y.t
theorem ValidC.perm {o n : Int} {Cs Es : List CV} (h : ValidC o n Cs) (hp : Es.Perm Cs) : tidyT 0 n (Es.map tg) ∧ coverT 0 n (Es.map tg) ∧ sumT (Es.map tg) = n := ⟨h.tidy.perm (hp.symm.map tg), h.cover.perm (hp.symm.map tg), by rw [sumT_perm (hp.map tg)]; exact h.sum⟩
theorem ValidC.chain {o n : Int} {Cs Es : List CV} (h : ValidC o n Cs) (hp : Es.Perm Cs) (hs : Es.Pairwise leC) : chainT 0 (Es.map tg) ∧ sumT (Es.map tg) = n := by
 obtain ⟨h1, h2, h3⟩ := h.perm hp
 have h4 := h.len
 unfold okLen at h4
 exact ⟨(chain_of_sorted (N := n) (a := 0) (by omega) h1 h2 (by rw [List.pairwise_map]; exact hs)).1, h3⟩
/-
 Commands that a callee has made; what the check of a delta depends on; a delta without a command, and with one twice; the chapter's example.
-/
def OwnD (N : Nat) (A : Option Addr) (m : Nat) (Es : List CV) (He : List Ent) : Prop := (∀ e ∈ He, N ≤ e.g) ∧ NumsC Es ∧ (m = 0 ∨ ∃ b off, A = some ⟨b, off, none⟩) ∧ ∀ w : World, (∀ e ∈ He, e.lies w) → SrcC w A m Es ∧ DatC w Es
theorem OwnD.mono {N N' m : Nat} {A : Option Addr} {Es : List CV} {He : List Ent} (h : OwnD N' A m Es He) (hN : N ≤ N') : OwnD N A m Es He := ⟨fun e he => Nat.le_trans hN (h.1 e he), h.2⟩
theorem OwnD.num {N m : Nat} {A : Option Addr} {Es : List CV} {He : List Ent} (h : OwnD N A m Es He) : NumsC Es := h.2.1
theorem OwnD.src {N m : Nat} {A : Option Addr} {Es : List CV} {He : List Ent} (h : OwnD N A m Es He) {w : World} (hs : ∀ e ∈ He, e.lies w) : SrcC w A m Es := (h.2.2.2 w hs).1
theorem OwnD.dat {N m : Nat} {A : Option Addr} {Es : List CV} {He : List Ent} (h : OwnD N A m Es He) {w : World} (hs : ∀ e ∈ He, e.lies w) : DatC w Es := (h.2.2.2 w hs).2
theorem OwnD.addr {N m : Nat} {A : Option Addr} {Es : List CV} {He : List Ent} (h : OwnD N A m Es He) (hm : 0 < m) : ∃ b off, A = some ⟨b, off, none⟩ := h.2.2.1.resolve_left (by omega)
theorem OwnD.rows {N m b off : Nat} {Es : List CV} {He : List Ent} (h : OwnD N (some ⟨b, off, none⟩) m Es He) (hm : 0 < m) {w : World} (hs : ∀ e ∈ He, e.lies w) : RowsC w b off Es := by
 rcases (h.src hs).2 with h1 | ⟨b', off', h1, _, h2⟩
 ·omega
 ·cases h1; exact h2
def keyE (x : CV) : (Int × Int × Int × Int × List Int) × Nat := (valC x, x.m)
def sameE (Fs Gs : List CV) : Prop := Fs.map keyE = Gs.map keyE
theorem sameE.c {Fs Gs : List CV} (h : sameE Fs Gs) : sameC Fs Gs := by
 have := congrArg (List.map Prod.fst) h
 rw [List.map_map, List.map_map] at this; exact this
theorem sameE.len {Fs Gs : List CV} (h : sameE Fs Gs) : Fs.length = Gs.length := sameC_len h.c
def fewQ (Cs : List CV) : Prop := (∀ (i : Nat) (x : CV), Cs[i]? = some x → x.m ≤ 300) ∧ Cs.length ≤ 5000
theorem fewQ.sub2 {Cs Es : List CV} (h : fewQ Cs) (hp : Es.Perm Cs) : fewQ Es := ⟨fun i x hx => by
 obtain ⟨j, hj⟩ := List.mem_iff_getElem?.1 (hp.mem_iff.1 (List.mem_of_getElem? hx))
 exact h.1 j x hj, by rw [hp.length_eq]; exact h.2⟩
theorem NumsC.sub {Cs Es : List CV} (h : NumsC Cs) (hs : ∀ x ∈ Es, x ∈ Cs) : NumsC Es := fun i x hx => by
 obtain ⟨j, hj⟩ := List.mem_iff_getElem?.1 (hs x (List.mem_of_getElem? hx))
 exact h j x hj
theorem DatC.sub {w : World} {Cs Es : List CV} (h : DatC w Cs) (hs : ∀ x ∈ Es, x ∈ Cs) : DatC w Es := fun i x hx => by
 obtain ⟨j, hj⟩ := List.mem_iff_getElem?.1 (hs x (List.mem_of_getElem? hx))
 exact h j x hj
def normC (x : CV) : CV := { x with A := none, c := 0, B := [] }
theorem firstF_congr {p q : Nat → Prop} (h : ∀ i, p i ↔ q i) : firstF p = firstF q := by
 have : p = q := funext fun i => propext (h i)
 rw [this]
theorem faultI_norm (o n : Int) (Cs : List CV) : faultI o n (Cs.map normC) = faultI o n Cs := by
 have h1 : firstF (bad1 o n (Cs.map normC)) = firstF (bad1 o n Cs) := firstF_congr fun i => by
  unfold bad1
  rw [List.getElem?_map]
  constructor
  ·rintro ⟨x, hx, hn⟩
   obtain ⟨y, hy, rfl⟩ := Option.map_eq_some_iff.1 hx
   exact ⟨y, hy, hn⟩
  ·rintro ⟨x, hx, hn⟩
   exact ⟨normC x, by rw [hx]; rfl, hn⟩
 have h2 : firstF (bad2 (Cs.map normC)) = firstF (bad2 Cs) := firstF_congr fun i => by
  unfold bad2
  constructor
  ·rintro ⟨x, j, y, hx, hj, hy, hm⟩
   rw [List.getElem?_map] at hx hy
   obtain ⟨x', hx', rfl⟩ := Option.map_eq_some_iff.1 hx
   obtain ⟨y', hy', rfl⟩ := Option.map_eq_some_iff.1 hy
   exact ⟨x', j, y', hx', hj, hy', hm⟩
  ·rintro ⟨x, j, y, hx, hj, hy, hm⟩
   exact ⟨normC x, j, normC y, by rw [List.getElem?_map, hx]; rfl, hj, by rw [List.getElem?_map, hy]; rfl, hm⟩
 have h3 : (Cs.map normC).map tg = Cs.map tg := by rw [List.map_map]; rfl
 have h4 : gapI n (Cs.map normC) = gapI n Cs := by unfold gapI; rw [h3]
 have h5 : ∀ i : Nat, ((Cs.map normC)[i]?).elim 0 (singleV o n) = (Cs[i]?).elim 0 (singleV o n) := fun i => by
  rw [List.getElem?_map]
  cases Cs[i]? <;> rfl
 unfold faultI
 rw [h1, h2, h4]
 simp only [h5]
theorem sameE.n {Cs Es : List CV} (h : sameE Es Cs) : Es.map normC = Cs.map normC := by
 have := congrArg (List.map fun (q : (Int × Int × Int × Int × List Int) × Nat) => (⟨q.1.1, q.1.2.1, q.1.2.2.1, q.1.2.2.2.1, none, q.2, 0, []⟩ : CV)) h
 rw [List.map_map, List.map_map] at this; exact this
theorem faultI_same {o n : Int} {Cs Es : List CV} (h : sameE Es Cs) : faultI o n Es = faultI o n Cs := by
 rw [← faultI_norm o n Es, h.n, faultI_norm]
theorem single_of {o n : Int} {Cs : List CV} (h : ∀ (i : Nat) (x : CV), Cs[i]? = some x → singleV o n x = 0) {Es : List CV} (hs : ∀ x ∈ Es, x ∈ Cs) : ∀ (i : Nat) (x : CV), Es[i]? = some x → singleV o n x = 0 := fun i x hx => by
 obtain ⟨j, hj⟩ := List.mem_iff_getElem?.1 (hs x (List.mem_of_getElem? hx))
 exact h j x hj
theorem bad2_none {N : Int} {Es : List CV} (ht : tidyT 0 N (Es.map tg)) : ∀ i, ¬ bad2 Es i := by
 rintro i ⟨x, j, y, hx, hj, hy, hm⟩
 have h2 := List.pairwise_iff_getElem.1 ht.2
 obtain ⟨hil, rfl⟩ := List.getElem?_eq_some_iff.1 hx
 obtain ⟨hjl, rfl⟩ := List.getElem?_eq_some_iff.1 hy
 have h3 := h2 j i (by simpa using hjl) (by simpa using hil) hj
 simp only [List.getElem_map] at h3
 have hpi := ht.1 (tg Es[i]) (List.mem_map.2 ⟨_, List.getElem_mem hil, rfl⟩)
 have hpj := ht.1 (tg Es[j]) (List.mem_map.2 ⟨_, List.getElem_mem hjl, rfl⟩)
 unfold okT at hpi hpj
 exact (meets_apart hpi.2.1 hpj.2.1).2 h3.symm hm
theorem valid_of {o n : Int} {Es : List CV} (h1 : okLen o n) (h2 : ∀ (i : Nat) (x : CV), Es[i]? = some x → singleV o n x = 0) (h3 : tidyT 0 n (Es.map tg)) (h4 : coverT 0 n (Es.map tg)) : faultI o n Es = (0, 0) := by
 rw [faultI_gap h1 h2 (bad2_none h3), gapI_no h4]; rfl
theorem ValidC.permV {o n : Int} {Cs Es : List CV} (h : ValidC o n Cs) (hp : Es.Perm Cs) : faultI o n Es = (0, 0) := by
 obtain ⟨h1, h2, _⟩ := h.perm hp
 exact valid_of h.len (single_of h.single fun x hx => hp.mem_iff.1 hx) h1 h2
theorem lies_srcC {w : World} {g t tot m : Nat} {cs : List Value} {Cs : List CV} (h : Ent.lies ⟨g, t, cs, tot⟩ w) (hc : cs = flatC Cs) (hm : Cs.length = m) : SrcC w (some ⟨g, 0, none⟩) m Cs := ⟨hm, .inr ⟨g, 0, rfl, h.lt, fun i x hx j u hu => by
 subst hc
 rw [Nat.zero_add]
 exact h.cell (flatC_get hx hu)⟩⟩
/-
 Targets in ascending order, with the index of their command: the first overlap, the first gap.
-/
structure TV where
 o : Int
 l : Int
 x : Nat
instance : Inhabited TV := ⟨⟨0, 0, 0⟩⟩
def cellsT (t : TV) : List Value := [int .i64 t.o, int .i64 t.l, int .i64 t.x]
def flatT (Ts : List TV) : List Value := Ts.flatMap cellsT
theorem flatT_len (Ts : List TV) : (flatT Ts).length = Ts.length * 3 := by
 induction Ts with
 | nil => rfl
 | cons x l ih => unfold flatT at ih ⊢; rw [List.flatMap_cons, List.length_append, ih]; show 3 + _ = _; simp only [List.length_cons]; omega
theorem cellsT_len (x : TV) : (cellsT x).length = 3 := rfl
def leT (x y : TV) : Prop := x.o ≤ y.o
theorem flatT_app (Ts Es : List TV) : flatT (Ts ++ Es) = flatT Ts ++ flatT Es := by unfold flatT; rw [List.flatMap_append]
theorem flatT_one (x : TV) : flatT [x] = cellsT x := by unfold flatT; simp
theorem flatT_get : ∀ {Ts : List TV} {i : Nat} {x : TV} {j : Nat} {u : Value}, Ts[i]? = some x → (cellsT x)[j]? = some u → (flatT Ts)[3 * i + j]? = some u
 | [], i, x, j, u, h, _ => by simp at h
 | y :: l, 0, x, j, u, h, hu => by
  simp at h; subst h
  have hj : j < 3 := (List.getElem?_eq_some_iff.1 hu).1
  show (cellsT y ++ flatT l)[3 * 0 + j]? = some u
  rw [List.getElem?_append_left (by show _ < 3; omega)]
  simpa using hu
 | y :: l, i + 1, x, j, u, h, hu => by
  show (cellsT y ++ flatT l)[3 * (i + 1) + j]? = some u
  rw [List.getElem?_append_right (by show 3 ≤ _; omega)]
  show (flatT l)[3 * (i + 1) + j - 3]? = some u
  rw [show 3 * (i + 1) + j - 3 = 3 * i + j by omega]
  exact flatT_get (by simpa using h) hu
theorem flatT_one' (Ts : List TV) : ∀ u ∈ flatT Ts, u.oneCell' = true := fun u hu => by
 unfold flatT at hu
 obtain ⟨x, hx, hu⟩ := List.mem_flatMap.1 hu
 unfold cellsT at hu
 simp only [List.mem_cons, List.not_mem_nil, or_false] at hu
 rcases hu with rfl | rfl | rfl <;> rfl
def tvA : Nat → List CV → List TV
 | _, [] => []
 | i, c :: Cs => ⟨c.t, lenV c.k c.l c.m, i⟩ :: tvA (i + 1) Cs
abbrev tvOf (Cs : List CV) : List TV := tvA 0 Cs
theorem tvA_len : ∀ (i : Nat) (Cs : List CV), (tvA i Cs).length = Cs.length
 | _, [] => rfl
 | i, c :: Cs => by simp [tvA, tvA_len (i + 1) Cs]
theorem tvA_of : ∀ {i : Nat} {Cs : List CV} {t : TV}, t ∈ tvA i Cs → ∃ (j : Nat) (c : CV), Cs[j]? = some c ∧ t = ⟨c.t, lenV c.k c.l c.m, i + j⟩
 | i, c :: Cs, t, h => by
  rcases List.mem_cons.1 h with rfl | h
  ·exact ⟨0, c, rfl, rfl⟩
  ·obtain ⟨j, c', h1, h2⟩ := tvA_of h
   exact ⟨j + 1, c', by simpa using h1, by rw [h2]; congr 1; omega⟩
theorem tvA_app : ∀ (i : Nat) (Cs Es : List CV), tvA i (Cs ++ Es) = tvA i Cs ++ tvA (i + Cs.length) Es
 | i, [], Es => by simp [tvA]
 | i, c :: Cs, Es => by simp [tvA, tvA_app (i + 1) Cs Es, Nat.add_comm, Nat.add_left_comm]
def stT (Cs : List CV) (m i : Nat) : List TV := tvA 0 (Cs.take i) ++ List.replicate (m - i) ⟨0, 0, 0⟩
theorem stT_zero (Cs : List CV) (m : Nat) : stT Cs m 0 = List.replicate m ⟨0, 0, 0⟩ := by simp [stT, tvA]
theorem stT_rep (Cs : List CV) (m : Nat) : (List.replicate m [int .i64 0, int .i64 0, int .i64 0]).flatten = flatT (stT Cs m 0) := by
 rw [stT_zero]
 induction m with
 | zero => rfl
 | succ m ih => rw [List.replicate_succ, List.replicate_succ, List.flatten_cons, ih]; unfold flatT; rw [List.flatMap_cons]; rfl
theorem stT_all {Cs : List CV} {m : Nat} (hl : Cs.length = m) : stT Cs m m = tvOf Cs := by unfold stT; rw [List.take_of_length_le (by omega)]; simp
theorem stT_len {Cs : List CV} {m i : Nat} (hl : Cs.length = m) (hi : i ≤ m) : (stT Cs m i).length = m := by
 unfold stT; rw [List.length_append, tvA_len, List.length_replicate, List.length_take]; omega
theorem stT_step {Cs : List CV} {m i : Nat} {c : CV} (hl : Cs.length = m) (hc : Cs[i]? = some c) :
  (flatT (stT Cs m i)).take (3 * i) ++ cellsT ⟨c.t, lenV c.k c.l c.m, i⟩ ++ (flatT (stT Cs m i)).drop (3 * i + 3) = flatT (stT Cs m (i + 1)) := by
 have hi := (List.getElem?_eq_some_iff.1 hc).1
 have e1 : stT Cs m i = tvA 0 (Cs.take i) ++ (⟨0, 0, 0⟩ :: List.replicate (m - (i + 1)) ⟨0, 0, 0⟩) := by
  unfold stT; rw [show m - i = (m - (i + 1)) + 1 by omega, List.replicate_succ]
 have e2 : stT Cs m (i + 1) = tvA 0 (Cs.take i) ++ (⟨c.t, lenV c.k c.l c.m, i⟩ :: List.replicate (m - (i + 1)) ⟨0, 0, 0⟩) := by
  unfold stT
  rw [List.take_add_one, hc, Option.toList_some, tvA_app, List.append_assoc]
  congr 1
  simp only [tvA, List.length_take, Nat.zero_add, List.cons_append, List.nil_append]
  rw [show min i Cs.length = i by omega]
 have h3 : (flatT (tvA 0 (Cs.take i))).length = 3 * i := by rw [flatT_len, tvA_len, List.length_take]; omega
 rw [e1, e2, flatT_app, flatT_app]
 have h4 : ∀ (z : TV) (R : List TV), flatT (z :: R) = cellsT z ++ flatT R := fun z R => by unfold flatT; rw [List.flatMap_cons]
 rw [h4, h4]
 rw [List.take_left' h3, List.append_assoc]
 congr 1
 congr 1
 rw [← List.drop_drop, List.drop_left' h3]
 rfl
def pr (t : TV) : Int × Int := (t.o, t.l)
theorem tvA_pr : ∀ (i : Nat) (Cs : List CV), (tvA i Cs).map pr = Cs.map tg
 | _, [] => rfl
 | i, c :: Cs => by simp [tvA, tvA_pr (i + 1) Cs, pr, tg]
def upT (i : Int) (t : TV) : Bool := decide ((t.x : Int) ≤ i)
def upF (Ts : List TV) (i : Int) : List (Int × Int) := (Ts.filter (upT i)).map pr
theorem filter_tvA : ∀ (i : Nat) (Cs : List CV) (q : Nat), (tvA i Cs).filter (upT ((i + q : Nat) : Int)) = tvA i (Cs.take (q + 1))
 | _, [], _ => by simp [tvA]
 | i, c :: Cs, 0 => by
  have h : ∀ (k : Nat) (Cs : List CV), i < k → (tvA k Cs).filter (upT ((i : Nat) : Int)) = [] := fun k Cs => by
   induction Cs generalizing k with
   | nil => intro _; rfl
   | cons c Cs ih => intro hk; simp only [tvA, List.filter_cons]; rw [if_neg (by unfold upT; simp; omega)]; exact ih (k + 1) (by omega)
  simp only [tvA, List.filter_cons, Nat.add_zero, List.take_succ_cons, List.take_zero]
  rw [if_pos (by unfold upT; simp), h (i + 1) Cs (by omega)]
 | i, c :: Cs, q + 1 => by
  have := filter_tvA (i + 1) Cs q
  simp only [tvA, List.filter_cons, List.take_succ_cons]
  rw [if_pos (by unfold upT; simp; omega), ← this, show i + 1 + q = i + (q + 1) by omega]
def endF (F : List (Int × Int)) : Nat → Int
 | 0 => 0
 | i + 1 => match F[i]? with
  | some p => p.1 + p.2
  | none => 0
theorem endF_succ {F : List (Int × Int)} {i : Nat} {p : Int × Int} (h : F[i]? = some p) : endF F (i + 1) = p.1 + p.2 := by simp [endF, h]
def ovF (F : List (Int × Int)) : Prop := ∃ i p, F[i]? = some p ∧ p.1 < endF F i
open Classical in
noncomputable instance (F : List (Int × Int)) : Decidable (ovF F) := Classical.propDecidable _
def gapR (F : List (Int × Int)) (g : Int) : Prop := ∃ k, k ≤ F.length ∧ g = endF F k ∧ (∀ j p, j < k → F[j]? = some p → p.1 ≤ endF F j) ∧ (k = F.length ∨ ∃ p, F[k]? = some p ∧ endF F k < p.1)
def srtF (F : List (Int × Int)) : Prop := F.Pairwise (fun p q => p.1 ≤ q.1)
def posF (F : List (Int × Int)) : Prop := ∀ p ∈ F, 0 ≤ p.1 ∧ 1 ≤ p.2
theorem no_ov {F : List (Int × Int)} (hp : posF F) (h : ¬ ovF F) : ∀ (j : Nat) (q : Int × Int), F[j]? = some q → ∀ (i : Nat) (p : Int × Int), i < j → F[i]? = some p → p.1 + p.2 ≤ q.1
 | j + 1, q, hq, i, p, hij, hpi => by
  have h1 : endF F (j + 1) ≤ q.1 := Classical.byContradiction fun hc => h ⟨j + 1, q, hq, by omega⟩
  have hj : j < F.length := by have := (List.getElem?_eq_some_iff.1 hq).1; omega
  have hr : F[j]? = some F[j] := List.getElem?_eq_getElem hj
  rw [endF_succ hr] at h1
  by_cases e : i = j
  ·subst e; rw [hr] at hpi; cases hpi; exact h1
  ·have h2 := no_ov hp h j _ hr i p (by omega) hpi
   have h3 := hp _ (List.getElem_mem hj)
   omega
theorem ov_iff {F : List (Int × Int)} (hp : posF F) (hs : srtF F) : ovF F ↔ ¬ F.Pairwise apartT := by
 constructor
 ·rintro ⟨i, q, hq, hlt⟩ ha
  have hqp := hp q (List.mem_of_getElem? hq)
  match i with
  | 0 => simp [endF] at hlt; omega
  | i + 1 =>
   obtain ⟨hi1, rfl⟩ := List.getElem?_eq_some_iff.1 hq
   have hr : F[i]? = some F[i] := List.getElem?_eq_getElem (by omega)
   rw [endF_succ hr] at hlt
   have h1 := List.pairwise_iff_getElem.1 ha i (i + 1) (by omega) hi1 (by omega)
   have h2 := List.pairwise_iff_getElem.1 hs i (i + 1) (by omega) hi1 (by omega)
   have h3 := hp F[i] (List.getElem_mem _)
   unfold apartT at h1
   omega
 ·intro ha
  apply Classical.byContradiction
  intro hn
  refine ha (List.pairwise_iff_getElem.2 fun i j hi hj hij => .inl ?_)
  exact no_ov hp hn j _ (List.getElem?_eq_getElem hj) i _ hij (List.getElem?_eq_getElem hi)
theorem gap_facts {F : List (Int × Int)} {g : Int} (hp : posF F) (hs : srtF F) (hg : gapR F g) : 0 ≤ g ∧ freeT F g ∨ ovF F := by
 by_cases hov : ovF F
 ·exact .inr hov
 ·left
  obtain ⟨k, hk, rfl, h1, h2⟩ := hg
  have h0 : 0 ≤ endF F k := by
   match k with
   | 0 => exact Int.le_refl _
   | k + 1 =>
    have hr : F[k]? = some F[k] := List.getElem?_eq_getElem (by omega)
    rw [endF_succ hr]
    have := hp F[k] (List.getElem_mem _)
    omega
  refine ⟨h0, fun p hpm hb => ?_⟩
  obtain ⟨j, hj⟩ := List.mem_iff_getElem?.1 hpm
  unfold hasB at hb
  by_cases hjk : j < k
  ·match k, hk with
   | k + 1, hk =>
    have hr : F[k]? = some F[k] := List.getElem?_eq_getElem (by omega)
    rw [endF_succ hr] at hb
    by_cases e : j = k
    ·subst e; rw [hr] at hj; cases hj; omega
    ·have := no_ov hp hov k _ hr j p (by omega) hj
     have := hp F[k] (List.getElem_mem _)
     omega
  ·rcases h2 with h2 | ⟨q, hq, hlt⟩
   ·have := (List.getElem?_eq_some_iff.1 hj).1; omega
   ·by_cases e : j = k
    ·subst e; rw [hq] at hj; cases hj; omega
    ·obtain ⟨hj1, rfl⟩ := List.getElem?_eq_some_iff.1 hj
     obtain ⟨hk1, rfl⟩ := List.getElem?_eq_some_iff.1 hq
     have := List.pairwise_iff_getElem.1 hs k j hk1 hj1 (by omega)
     omega
theorem gap_below {F : List (Int × Int)} : ∀ (k : Nat), k ≤ F.length → (∀ j p, j < k → F[j]? = some p → p.1 ≤ endF F j) → ∀ x, 0 ≤ x → x < endF F k → ∃ p ∈ F, hasB p x
 | 0, _, _, x, h0, h1 => by simp [endF] at h1; omega
 | k + 1, hk, h, x, h0, h1 => by
  have hr : F[k]? = some F[k] := List.getElem?_eq_getElem (by omega)
  rw [endF_succ hr] at h1
  by_cases hx : F[k].1 ≤ x
  ·exact ⟨F[k], List.getElem_mem _, hx, h1⟩
  ·have h2 := h k _ (by omega) hr
   exact gap_below k (by omega) (fun j p hj hp => h j p (by omega) hp) x h0 (by omega)
theorem gap_least {F : List (Int × Int)} {g N : Int} (hp : posF F) (hs : srtF F) (hn : ¬ ovF F) (hg : gapR F g) (hN : g < N) : leastT N F g := by
 obtain ⟨h0, hf⟩ := (gap_facts hp hs hg).resolve_right hn
 obtain ⟨k, hk, rfl, h1, h2⟩ := hg
 exact ⟨h0, hN, hf, fun x hx hxg hfx => by
  obtain ⟨p, hpm, hb⟩ := gap_below k hk h1 x hx hxg
  exact hfx p hpm hb⟩
theorem gap_covers {F : List (Int × Int)} {g N : Int} (hg : gapR F g) (hN : N ≤ g) : coverT 0 N F := fun x h0 hx => by
 obtain ⟨k, hk, rfl, h1, h2⟩ := hg
 exact gap_below k hk h1 x h0 (by omega)
theorem endF_bd {F : List (Int × Int)} {n : Int} (hp : posF F) (hn : ∀ p ∈ F, p.1 + p.2 ≤ n) (h0 : 0 ≤ n) : ∀ k, 0 ≤ endF F k ∧ endF F k ≤ n
 | 0 => ⟨Int.le_refl _, h0⟩
 | k + 1 => by
  cases h : F[k]? with
  | none =>
   have e : endF F (k + 1) = 0 := by simp [endF, h]
   rw [e]; exact ⟨Int.le_refl _, h0⟩
  | some p =>
   have h1 := hp p (List.mem_of_getElem? h)
   have h2 := hn p (List.mem_of_getElem? h)
   rw [endF_succ h]
   omega
structure AscT (o n : Int) (Cs : List CV) (Ts : List TV) : Prop where
 perm : Ts.Perm (tvOf Cs)
 srt : Ts.Pairwise leT
 ok : okLen o n
 single : ∀ (i : Nat) (x : CV), Cs[i]? = some x → singleV o n x = 0
section
variable {o n : Int} {Cs : List CV} {Ts : List TV}
theorem AscT.len (h : AscT o n Cs Ts) : Ts.length = Cs.length := by rw [h.perm.length_eq, tvA_len]
theorem AscT.num (h : AscT o n Cs Ts) {t : TV} (ht : t ∈ Ts) : 0 ≤ t.o ∧ 1 ≤ t.l ∧ t.o + t.l ≤ n ∧ n ≤ 4611686018427387903 ∧ t.x < Cs.length := by
 obtain ⟨j, c, hj, rfl⟩ := tvA_of (h.perm.mem_iff.1 ht)
 obtain ⟨h1, h2, h3, _⟩ := single_vld (h.single j c hj)
 have h4 := h.ok
 have h5 := (List.getElem?_eq_some_iff.1 hj).1
 unfold vld at h1
 unfold okLen at h4
 dsimp only
 omega
theorem AscT.nums (h : AscT o n Cs Ts) (hm : Cs.length ≤ 1000000000) : ∀ t ∈ Ts, (-9223372036854775808 ≤ t.o ∧ t.o ≤ 9223372036854775807) ∧ (-9223372036854775808 ≤ t.l ∧ t.l ≤ 9223372036854775807) ∧ t.x ≤ 9223372036854775807 := fun t ht => by
 have := h.num ht; omega
theorem AscT.n0 (h : AscT o n Cs Ts) : 0 ≤ n ∧ n ≤ 4611686018427387903 := by have := h.ok; unfold okLen at this; omega
theorem AscT.pos (h : AscT o n Cs Ts) (i : Int) : posF (upF Ts i) := fun p hp => by
 obtain ⟨t, ht, rfl⟩ := List.mem_map.1 hp
 have := h.num (List.mem_filter.1 ht).1
 unfold pr; dsimp only; omega
theorem AscT.ends (h : AscT o n Cs Ts) (i : Int) : ∀ p ∈ upF Ts i, p.1 + p.2 ≤ n := fun p hp => by
 obtain ⟨t, ht, rfl⟩ := List.mem_map.1 hp
 have := h.num (List.mem_filter.1 ht).1
 unfold pr; dsimp only; omega
theorem AscT.srtd (h : AscT o n Cs Ts) (i : Int) : srtF (upF Ts i) := by
 unfold srtF upF
 rw [List.pairwise_map]
 exact h.srt.sublist List.filter_sublist
theorem AscT.upPerm (h : AscT o n Cs Ts) (i : Nat) : (upF Ts (i : Int)).Perm ((Cs.take (i + 1)).map tg) := by
 unfold upF
 have h1 := (h.perm.filter (upT (i : Int))).map pr
 have h2 := filter_tvA 0 Cs i
 rw [Nat.zero_add] at h2
 rw [h2, tvA_pr] at h1
 exact h1
theorem bad2_iff (h1 : ∀ (i : Nat) (x : CV), Cs[i]? = some x → singleV o n x = 0) (i : Nat) : (∃ i', i' ≤ i ∧ bad2 Cs i') ↔ ¬ ((Cs.take (i + 1)).map tg).Pairwise apartT := by
 have pos : ∀ {j : Nat} {x : CV}, Cs[j]? = some x → 1 ≤ (tg x).2 := fun hx => (single_vld (h1 _ _ hx)).2.1
 constructor
 ·rintro ⟨i', hi, x, j, y, hx, hj, hy, hm⟩ hp
  have hx' : ((Cs.take (i + 1)).map tg)[i']? = some (tg x) := by rw [List.getElem?_map, List.getElem?_take, if_pos (by omega), hx]; rfl
  have hy' : ((Cs.take (i + 1)).map tg)[j]? = some (tg y) := by rw [List.getElem?_map, List.getElem?_take, if_pos (by omega), hy]; rfl
  obtain ⟨a1, a2⟩ := List.getElem?_eq_some_iff.1 hx'
  obtain ⟨b1, b2⟩ := List.getElem?_eq_some_iff.1 hy'
  have := List.pairwise_iff_getElem.1 hp j i' b1 a1 hj
  rw [a2, b2] at this
  exact (meets_apart (pos hx) (pos hy)).2 this.symm hm
 ·intro hn
  apply Classical.byContradiction
  intro hno
  refine hn (List.pairwise_iff_getElem.2 fun j i' hj hi' hlt => ?_)
  simp only [List.length_map, List.length_take] at hj hi'
  simp only [List.getElem_map, List.getElem_take]
  have hx : Cs[i']? = some Cs[i'] := List.getElem?_eq_getElem (by omega)
  have hy : Cs[j]? = some Cs[j] := List.getElem?_eq_getElem (by omega)
  exact ((meets_apart (pos hx) (pos hy)).1 fun hm => hno ⟨i', by omega, _, j, _, hx, hlt, hy, hm⟩).symm
theorem AscT.ov (h : AscT o n Cs Ts) (i : Nat) : ovF (upF Ts (i : Int)) ↔ ∃ i', i' ≤ i ∧ bad2 Cs i' := by
 rw [ov_iff (h.pos _) (h.srtd _), bad2_iff h.single]
 have hp := h.upPerm i
 constructor
 ·exact fun h1 h2 => h1 (h2.perm hp.symm apartT.symm)
 ·exact fun h1 h2 => h1 (h2.perm hp apartT.symm)
theorem AscT.mono (h : AscT o n Cs Ts) {a b : Nat} (hab : a ≤ b) (ha : ovF (upF Ts (a : Int))) : ovF (upF Ts (b : Int)) := by
 rw [h.ov] at ha ⊢
 obtain ⟨i', h1, h2⟩ := ha
 exact ⟨i', by omega, h2⟩
theorem AscT.over (h : AscT o n Cs Ts) {k : Nat} (hk : ovF (upF Ts (k : Int))) (hb : ∀ j : Nat, j < k → ¬ ovF (upF Ts (j : Int))) : faultI o n Cs = (4, (k : Int)) := by
 obtain ⟨i', hi, hbad⟩ := (h.ov k).1 hk
 have e : i' = k := by
  apply Classical.byContradiction
  intro hne
  exact hb i' (by omega) ((h.ov i').2 ⟨i', Nat.le_refl _, hbad⟩)
 subst e
 obtain ⟨x, j, y, hx, hj, hy, hm⟩ := hbad
 exact faultI_over h.ok h.single hx hj hy hm fun q hq hbq => hb q hq ((h.ov q).2 ⟨q, Nat.le_refl _, hbq⟩)
theorem AscT.noBad (h : AscT o n Cs Ts) {m : Nat} (hm : Cs.length = m) (hb : ∀ j : Nat, j < m → ¬ ovF (upF Ts (j : Int))) : ∀ i, ¬ bad2 Cs i :=
 bad2_all (m := m) (by omega) fun i' hi' hbad => hb i' hi' ((h.ov i').2 ⟨i', Nat.le_refl _, hbad⟩)
theorem AscT.all (h : AscT o n Cs Ts) {m : Nat} (hm : Cs.length = m) : (upF Ts (m : Int)).Perm (Cs.map tg) := by
 have := h.upPerm m
 rwa [List.take_of_length_le (by omega)] at this
theorem AscT.noOv (h : AscT o n Cs Ts) {m : Nat} (hm : Cs.length = m) (hb : ∀ j : Nat, j < m → ¬ ovF (upF Ts (j : Int))) : ¬ ovF (upF Ts (m : Int)) := fun hov => by
 obtain ⟨i', _, hbad⟩ := (h.ov m).1 hov
 exact h.noBad hm hb i' hbad
theorem AscT.gap (h : AscT o n Cs Ts) {m : Nat} {g : Int} (hm : Cs.length = m) (hb : ∀ j : Nat, j < m → ¬ ovF (upF Ts (j : Int))) (hg : gapR (upF Ts (m : Int)) g) (hN : g < n) : faultI o n Cs = (3, g) := by
 have hl := gap_least (h.pos _) (h.srtd _) (h.noOv hm hb) hg hN
 have hp := h.all hm
 have hl2 : leastT n (Cs.map tg) g := ⟨hl.1, hl.2.1, hl.2.2.1.perm hp, fun x hx hxg hf => hl.2.2.2 x hx hxg (hf.perm hp.symm)⟩
 rw [faultI_gap h.ok h.single (h.noBad hm hb), gapI_is hl2, if_pos hl.1]
theorem AscT.none (h : AscT o n Cs Ts) {m : Nat} {g : Int} (hm : Cs.length = m) (hb : ∀ j : Nat, j < m → ¬ ovF (upF Ts (j : Int))) (hg : gapR (upF Ts (m : Int)) g) (hN : ¬ g < n) : faultI o n Cs = (0, 0) := by
 have hc := (gap_covers (N := n) hg (by omega)).perm (h.all hm)
 rw [faultI_gap h.ok h.single (h.noBad hm hb), gapI_no hc, if_neg (by omega)]
end
def cntT (Ts : List TV) (i : Int) (k : Nat) : Nat := ((Ts.take k).filter (upT i)).length
theorem cntT_yes {Ts : List TV} {i : Int} {k : Nat} {t : TV} (ht : Ts[k]? = some t) (h : (t.x : Int) ≤ i) : cntT Ts i (k + 1) = cntT Ts i k + 1 ∧ (upF Ts i)[cntT Ts i k]? = some (pr t) := by
 have hb : upT i t = true := by unfold upT; simpa using h
 have hk := (List.getElem?_eq_some_iff.1 ht).1
 constructor
 ·unfold cntT
  rw [List.take_add_one, ht, Option.toList_some, List.filter_append]
  simp [hb]
 ·unfold upF cntT
  have e : Ts.filter (upT i) = (Ts.take k).filter (upT i) ++ (t :: (Ts.drop (k + 1)).filter (upT i)) := by
   conv => lhs; rw [← List.take_append_drop k Ts]
   rw [List.filter_append, List.drop_eq_getElem_cons hk, List.filter_cons]
   have : Ts[k] = t := (List.getElem?_eq_some_iff.1 ht).2
   rw [this, if_pos hb]
  rw [List.getElem?_map, e, List.getElem?_append_right (Nat.le_refl _), Nat.sub_self]
  rfl
theorem cntT_no {Ts : List TV} {i : Int} {k : Nat} {t : TV} (ht : Ts[k]? = some t) (h : ¬ (t.x : Int) ≤ i) : cntT Ts i (k + 1) = cntT Ts i k := by
 have hb : upT i t = false := by unfold upT; simpa using h
 unfold cntT
 rw [List.take_add_one, ht, Option.toList_some, List.filter_append]
 simp [hb]
theorem cntT_all {Ts : List TV} {i : Int} {m : Nat} (hm : Ts.length = m) : cntT Ts i m = (upF Ts i).length := by
 unfold cntT upF
 rw [List.take_of_length_le (by omega), List.length_map]
theorem cntT_lt {Ts : List TV} {i : Int} {k : Nat} {t : TV} (ht : Ts[k]? = some t) (h : (t.x : Int) ≤ i) : cntT Ts i k < (upF Ts i).length := (List.getElem?_eq_some_iff.1 (cntT_yes ht h).2).1
def RowsT (w : World) (b off : Nat) (Ts : List TV) : Prop := ∀ (i : Nat) (x : TV), Ts[i]? = some x → ∀ j u, (cellsT x)[j]? = some u → w.cell? ⟨b, off + 3 * i + j, none⟩ = some u
theorem lies_rowsT {w : World} {g t tot : Nat} {Ts : List TV} (h : Ent.lies ⟨g, t, flatT Ts, tot⟩ w) : RowsT w g 0 Ts := fun i x hx j u hu => by
 have := h.cell (o := 3 * i + j) (flatT_get hx hu)
 rw [show 0 + 3 * i + j = 3 * i + j by omega]
 exact this
theorem RowsT.of_block {w w' : World} {b off : Nat} {Ts : List TV} (h : RowsT w b off Ts) (hb : w'.heap[b]? = w.heap[b]?) : RowsT w' b off Ts := fun i x hx j u hu => (World.cell?_of_block (w := w) hb).trans (h i x hx j u hu)
/-
 The iterator over targets: what it has captured, what a round of it leaves.
-/
theorem TE.retC1 {P : Program} {n : Sz} {w0 : World} {L : List (Nat × Value)} {H : List Ent} {fn : Func} {R : Ending → World → Prop} {i g off : Nat} {t : TypeId} {v : Value} {ex : Exit} (hres : fn.results = #[.cell i t]) (hag : (isAgg t).run P = fun w => .ok false w)
  (hx : look L i = some (.pointer (some ⟨g, off, none⟩))) (hc : At w0 H ⟨g, off, none⟩ v) (h : ∀ w, St w0 H w → R (.returned v) w) (hex : ex = .ret ∨ ex = .normal) (hds : n.ds = [] := by rfl) : TE (bodyPost P fn R) ex n w0 L H := fun a w hf hs => by
 have h1 : (a.tmps.getD i undef) = .pointer (some ⟨g, off, none⟩) := by simp [Array.getD_eq_getD_getElem?, hf.2.2 i _ hx]
 have key : a.defers = [] ∧ ∃ v, (results fn a.tmps).run P w = .ok v w ∧ R (.returned v) w := by
  refine ⟨hf.1.trans hds, v, ?_, h w hs⟩
  simp only [results, hres]
  simp [Sem.run_bind, loadVar, hag]
  simp only [Array.getD_eq_getD_getElem?] at h1
  simp [h1, asAddr, load, Sem.run, hc w hs]
 rcases hex with rfl | rfl
 ·exact key
 ·exact key
structure CapT (w : World) (b1 b2 g m : Nat) (Ts : List TV) (q : Int) : Prop where
 s : w.cell? ⟨b1, 0, none⟩ = some (.slice (some ⟨g, 0, none⟩) m m)
 x : w.cell? ⟨b2, 0, none⟩ = some (.int .i64 q)
 r : RowsT w g 0 Ts
 l : Ts.length = m
 h1 : b1 < w.heap.size
 h2 : b2 < w.heap.size
 h3 : g < w.heap.size
def capK (b1 b2 g : Nat) (k : Nat) : Prop := k = b1 ∨ k = b2 ∨ k = g
section
variable {P : Program} {w0 v w w' W : World} {b1 b2 g m : Nat} {Ts : List TV} {q : Int} {H : List Ent}
theorem CapT.lt (h : CapT w b1 b2 g m Ts q) {k : Nat} (hk : capK b1 b2 g k) : k < w.heap.size := by
 rcases hk with rfl | rfl | rfl
 ·exact h.h1
 ·exact h.h2
 ·exact h.h3
theorem CapT.row (h : CapT w b1 b2 g m Ts q) {k : Nat} {x : TV} (hx : Ts[k]? = some x) {j : Nat} {u : Value} (hu : (cellsT x)[j]? = some u) : w.cell? ⟨g, 3 * k + j, none⟩ = some u := by
 have := h.r k x hx j u hu
 rw [Nat.zero_add] at this; exact this
theorem CapT.keep (h : CapT w b1 b2 g m Ts q) (hk : ∀ k, capK b1 b2 g k → w'.heap[k]? = w.heap[k]?) (hsz : w.heap.size ≤ w'.heap.size) : CapT w' b1 b2 g m Ts q :=
 ⟨(World.cell?_of_block (w := w) (hk b1 (.inl rfl))).trans h.s, (World.cell?_of_block (w := w) (hk b2 (.inr (.inl rfl)))).trans h.x, h.r.of_block (hk g (.inr (.inr rfl))), h.l, Nat.lt_of_lt_of_le h.h1 hsz, Nat.lt_of_lt_of_le h.h2 hsz, Nat.lt_of_lt_of_le h.h3 hsz⟩
theorem CapT.keepL (h : CapT w b1 b2 g m Ts q) (hk : ∀ k, capK b1 b2 g k → w'.heap[k]? = w.heap[k]?) (hl : ∀ k, capK b1 b2 g k → k < w'.heap.size) : CapT w' b1 b2 g m Ts q :=
 ⟨(World.cell?_of_block (w := w) (hk b1 (.inl rfl))).trans h.s, (World.cell?_of_block (w := w) (hk b2 (.inr (.inl rfl)))).trans h.x, h.r.of_block (hk g (.inr (.inr rfl))), h.l, hl _ (.inl rfl), hl _ (.inr (.inl rfl)), hl _ (.inr (.inr rfl))⟩
theorem CapT.at_ (h : CapT w0 b1 b2 g m Ts q) (hs : St w0 H w) (hne : ∀ b, b < w0.heap.size → ∀ e ∈ H, e.g ≠ b) : CapT w b1 b2 g m Ts q :=
 h.keep (fun k hk => hs.old k (h.lt hk) (hne k (h.lt hk))) hs.size
theorem St.beside0 {lo : Nat} (h : St v H w) (hn : ∀ e ∈ H, v.heap.size ≤ e.g) : Beside lo (lo + 0) v w :=
 ⟨h.os, h.tape, h.output, h.size, fun k hk _ => h.old k hk (fun e he => by have := hn e he; omega)⟩
def eP (F : List (Int × Int)) (i : Nat) : Int × Int := F.getD i (0, 0)
theorem eP_of {F : List (Int × Int)} {i : Nat} {p : Int × Int} (h : F[i]? = some p) : eP F i = p := by unfold eP; rw [List.getD_eq_getElem?_getD, h]; rfl
theorem eP_at {F : List (Int × Int)} {i : Nat} (h : i < F.length) : F[i]? = some (eP F i) := by
 have h1 : F[i]? = some F[i] := List.getElem?_eq_getElem h
 rw [eP_of h1]; exact h1
def encP (F : List (Int × Int)) (i : Nat) : Value := .agg #[.int .i64 (eP F i).1, .int .i64 (eP F i).2]
theorem up_yield {l : Nat} {J Jx : Nat → World → Prop} {F : List (Int × Int)} {N cn : Nat} {p : Int × Int}
  (hJ : ∀ s A B, J s A → Beside W.heap.size (W.heap.size + 0) A B → J s B)
  (hY : ∀ i W1, i < N → J i W1 → W.heap.size + 0 ≤ W1.heap.size → YieldAt Fence.wide (2 - 1) P l #[encP F i] W1 fun e W' =>
   (e = .returned (.bool true) ∧ J (i + 1) W' ∧ Holds (fun k => (W.heap.size ≤ k ∧ k < W.heap.size + 0) ∨ capK b1 b2 g k) W1 W' ∧ W.heap.size + 0 ≤ W'.heap.size) ∨ (e = .returned (.bool false) ∧ Jx (i + 1) W'))
  (hN : cn < N) (hp : F[cn]? = some p) (hj : J cn v) (hc : CapT v b1 b2 g m Ts q) (hsz : W.heap.size ≤ v.heap.size) (hs : St v H w) (hn : ∀ e ∈ H, v.heap.size ≤ e.g) :
  YieldAt Fence.wide 1 P l #[.agg #[.int .i64 p.1, .int .i64 p.2]] w fun e w' => (e = .returned (.bool true) ∧ (J (cn + 1) w' ∧ CapT w' b1 b2 g m Ts q ∧ W.heap.size ≤ w'.heap.size)) ∨ (e = .returned (.bool false) ∧ Jx (cn + 1) w') := by
 have hb := St.beside0 (lo := W.heap.size) hs hn
 have hsw := hs.size
 obtain ⟨fn, tmps, assign, body, h1, h2⟩ := hY cn w hN (hJ _ _ _ hj hb) (by omega)
 have he : encP F cn = .agg #[.int .i64 p.1, .int .i64 p.2] := by unfold encP; rw [eP_of hp]
 rw [he] at h1
 have hcw : CapT w b1 b2 g m Ts q := hc.keep (fun k hk => hs.old k (hc.lt hk) (fun e he => by have := hn e he; have := hc.lt hk; omega)) hsw
 refine ⟨fn, tmps, assign, body, h1, h2.mono ?_⟩
 rintro e w' (⟨he, hj', hk, hz⟩ | ⟨he, hx⟩)
 ·exact .inl ⟨he, hj', hcw.keepL (fun k hk' => hk k (.inr hk') (hcw.lt hk')) (fun k hk' => hk.lt (.inr hk') (hcw.lt hk')), by omega⟩
 ·exact .inr ⟨he, hx⟩
theorem lies_call {e : Ent} (h : e.lies w) (hW : St w [] W) : e.lies W := h.of_block (hW.old _ h.lt (by simp))
theorem capT_of {t1 t2 : TypeId} (h1 : Ent.lies ⟨b1, t1, [.slice (some ⟨g, 0, none⟩) m m], 1⟩ w) (h2 : Ent.lies ⟨b2, t2, [.int .i64 q], 1⟩ w) (hr : RowsT w g 0 Ts) (hl : Ts.length = m) (hg : g < w.heap.size) : CapT w b1 b2 g m Ts q :=
 ⟨h1.cell rfl, h2.cell rfl, hr, hl, h1.lt, h2.lt, hg⟩
theorem nov_succ {F : List (Int × Int)} {i : Nat} {p : Int × Int} (h : ∀ j r, j < i → F[j]? = some r → endF F j ≤ r.1) (hp : F[i]? = some p) (hn : ¬ p.1 < endF F i) : ∀ j r, j < i + 1 → F[j]? = some r → endF F j ≤ r.1 := fun j r hj hr => by
 by_cases e : j = i
 ·subst e; rw [hp] at hr; cases hr; omega
 ·exact h j r (by omega) hr
theorem ngap_succ {F : List (Int × Int)} {i : Nat} {p : Int × Int} (h : ∀ j r, j < i → F[j]? = some r → r.1 ≤ endF F j) (hp : F[i]? = some p) (hn : ¬ endF F i < p.1) : ∀ j r, j < i + 1 → F[j]? = some r → r.1 ≤ endF F j := fun j r hj hr => by
 by_cases e : j = i
 ·subst e; rw [hp] at hr; cases hr; omega
 ·exact h j r (by omega) hr
theorem nov_end {F : List (Int × Int)} (h : ∀ j r, j < F.length → F[j]? = some r → endF F j ≤ r.1) : ¬ ovF F := by
 rintro ⟨i, p, hp, hlt⟩
 have := h i p (List.getElem?_eq_some_iff.1 hp).1 hp
 omega
noncomputable def lowI (p : Nat → Prop) (m : Nat) : Nat := match firstF (fun i => i < m ∧ p i) with
 | some i => i
 | none => m
theorem lowI_spec (p : Nat → Prop) (m : Nat) : (lowI p m < m ∧ p (lowI p m) ∨ lowI p m = m) ∧ ∀ j, j < lowI p m → j < m → ¬ p j := by
 unfold lowI
 cases h : firstF (fun i => i < m ∧ p i) with
 | some i =>
  have ⟨h1, h2⟩ := firstF_spec h
  exact ⟨.inl h1, fun j hj hjm hp => h2 j hj ⟨hjm, hp⟩⟩
 | none => exact ⟨.inr rfl, fun j hj hjm hp => firstF_nope h j ⟨hjm, hp⟩⟩
theorem lowI_is {p : Nat → Prop} {m k : Nat} (hk : k ≤ m) (h1 : ∀ j, j < k → ¬ p j) (h2 : k = m ∨ p k) : lowI p m = k := by
 obtain ⟨a, b⟩ := lowI_spec p m
 have c1 : ¬ k < lowI p m := fun hlt => by
  rcases h2 with h2 | h2
  ·rcases a with a | a <;> omega
  ·rcases a with a | a
   ·exact b k hlt (by omega) h2
   ·exact b k hlt (by omega) h2
 have c2 : ¬ lowI p m < k := fun hlt => by
  rcases a with a | a
  ·exact h1 _ hlt a.2
  ·omega
 omega
end
/-
 Contracts of Clone, Grow and Concat.
-/
theorem enters59 : Enters Tryd.prog 59 := ⟨_, Tryd.func59, by kernel_rfl, by kernel_rfl⟩
theorem enters60 : Enters Tryd.prog 60 := ⟨_, Tryd.func60, by kernel_rfl, by kernel_rfl⟩
instance : Sli Tryd.prog 52 22 := ⟨Tryd.underlying52⟩
theorem bclone_c (M : List Int) (ad : Addr) (m c : Nat) (w : World) (hsM : Src w (some ad) m .u8 M) (hmc : m ≤ c) (hm : m ≤ 140737488355328) : Calls Tryd.prog 60 #[.slice (some ad) m c] w fun e w' => ∃ g c', e = .returned (.slice (some ⟨g, 0, none⟩) m c') ∧ w.heap.size ≤ g ∧ m ≤ c' ∧ c' ≤ maxLen ∧ St w [⟨g, 5, (M).map (int .u8), c'⟩] w' := by
 refine qN (args := [.slice (some ad) m c]) Tryd.func60 rfl Tryd.ntmps60 (by simp) ?_
 refine qD [0] ?_
 iterate 9 refine gx ?_
 refine qB (qA rfl) rfl (Gets.sliceNil (A := some ad) rfl Tryd.underlying22 rfl rfl) ?_
 iterate 2 refine gx ?_
 refine TC.no rfl ?_
 iterate 4 refine gx ?_
 refine TL.emptySlice (qA rfl) rfl rfl Tryd.underlying22 size5 (fun g1 hg1 => ?_)
 refine gx ?_
 refine TL.appendOwn (H := []) (He := [⟨g1, 5, ([] : List Int).map (int .u8), 0⟩]) (qA rfl) rfl rfl Tryd.underlying22 mk5 rfl rfl rfl (W := []) (B := M) (.inr ⟨g1, 0, rfl, rfl, hg1, Nat.le_refl _, by unfold maxLen; omega⟩) (fun w hs => hsM.at_ hs (fun b hb => qU qE (qC (by show g1 ≠ b; omega) qE))) (by simp only [List.length_nil]; omega) (by simp only [List.length_nil]; omega) (fun vo Ho ho hne => ?_)
 rw [List.nil_append] at ho
 obtain ⟨gs, cs, rfl, rfl, hgs, hcs, hms⟩ := own_some ho (hne (by intro h; cases h))
 have hls := hsM.1
 rw [hls] at hcs ⊢
 iterate 4 refine gx ?_
 exact qK rfl rfl (fun w hs => ⟨gs, cs, rfl, hgs, hcs, hms, hs⟩)
theorem bclone_nil (m c : Nat) (w : World) : Calls Tryd.prog 60 #[.slice none m c] w fun e w' => e = .returned (.slice none 0 0) ∧ St w [] w' := by
 refine qN (args := [.slice none m c]) Tryd.func60 rfl Tryd.ntmps60 (by simp) ?_
 refine qD [0] ?_
 iterate 9 refine gx ?_
 refine qB (qA rfl) rfl (Gets.sliceNil (A := none) rfl Tryd.underlying22 rfl rfl) ?_
 iterate 2 refine gx ?_
 refine TC.yes rfl ?_
 iterate 7 refine gx ?_
 exact qK rfl rfl (fun w hs => ⟨rfl, hs⟩)
theorem clone_nil (k t f l : Int) (m c : Nat) (w : World) : Calls Tryd.prog 43 #[.agg ([int .i64 k, int .i64 t, int .i64 f, int .i64 l, slice none m c]).toArray] w fun e w' => e = .returned (.agg ([int .i64 k, int .i64 t, int .i64 f, int .i64 l, slice none 0 0]).toArray) ∧ St w [] w' := by
 refine qN (args := [.agg ([int .i64 k, int .i64 t, int .i64 f, int .i64 l, slice none m c]).toArray]) Tryd.func43 rfl Tryd.ntmps43 (by simp) ?_
 refine qD [0] ?_
 iterate 2 refine gx ?_
 refine TL.bxA (fun g1 hg1 => ?_)
 refine qW (fun g2 hg2 => ?_)
 iterate 6 refine gx ?_
 refine qM (qA rfl) rfl enters60 rfl rfl (v := .slice none 0 0) (fun w hs => bclone_nil m c w) ?_
 refine gx ?_
 refine qo (qA rfl) rfl rfl size22 rfl rfl rfl (i := 1) rfl rfl (by simp [] <;> omega) (cs' := [int .i64 k, int .i64 t, int .i64 f, int .i64 l, slice none 0 0]) (rfl) (H' := [⟨g2, 38, [int .i64 0, int .i64 0, int .i64 0, int .i64 0, slice none 0 0], 5⟩, ⟨g1, 38, [int .i64 k, int .i64 t, int .i64 f, int .i64 l, slice none 0 0], 5⟩]) rfl ?_
 iterate 9 refine gx ?_
 exact qb rfl agg38 size38 rfl (vs := [int .i64 k, int .i64 t, int .i64 f, int .i64 l, slice none 0 0]) rfl (qS (i := 0) (ent := ⟨g2, 38, [int .i64 k, int .i64 t, int .i64 f, int .i64 l, slice none 0 0], 5⟩) rfl rfl rfl) (fun w hs => ⟨rfl, ((hs.drop (by assumption)).drop (by assumption))⟩)
theorem clone_some (k t f l : Int) (ad : Addr) (m c : Nat) (B : List Int) (w : World) (hsA : Src w (some ad) m .u8 B) (hmc : m ≤ c) (hm : m ≤ 140737488355328) : Calls Tryd.prog 43 #[.agg ([int .i64 k, int .i64 t, int .i64 f, int .i64 l, slice (some ad) m c]).toArray] w fun e w' => ∃ g c', e = .returned (.agg ([int .i64 k, int .i64 t, int .i64 f, int .i64 l, slice (some ⟨g, 0, none⟩) m c']).toArray) ∧ w.heap.size ≤ g ∧ m ≤ c' ∧ c' ≤ maxLen ∧ St w [⟨g, 5, (B).map (int .u8), c'⟩] w' := by
 refine qN (args := [.agg ([int .i64 k, int .i64 t, int .i64 f, int .i64 l, slice (some ad) m c]).toArray]) Tryd.func43 rfl Tryd.ntmps43 (by simp) ?_
 refine qD [0] ?_
 iterate 2 refine gx ?_
 refine TL.bxA (fun g1 hg1 => ?_)
 refine qW (fun g2 hg2 => ?_)
 iterate 6 refine gx ?_
 refine qg (ι := Nat × Nat) (V := fun yk => .slice (some ⟨yk.1, 0, none⟩) m yk.2) (R := fun yk => (m ≤ yk.2 ∧ yk.2 ≤ maxLen) ∧ w.heap.size ≤ (⟨yk.1, 5, B.map (int .u8), yk.2⟩ : Ent).g) (H' := fun yk => [⟨yk.1, 5, B.map (int .u8), yk.2⟩, ⟨g2, 38, [int .i64 0, int .i64 0, int .i64 0, int .i64 0, slice none 0 0], 5⟩, ⟨g1, 38, [int .i64 k, int .i64 t, int .i64 f, int .i64 l, slice (some ad) m c], 5⟩]) (qA rfl) rfl enters60 rfl rfl (fun w hs => (show Calls Tryd.prog 60 #[.slice (some ad) m c] w (fun e w' => ∃ yk : Nat × Nat, e = .returned (.slice (some ⟨yk.1, 0, none⟩) m yk.2) ∧ (m ≤ yk.2 ∧ yk.2 ≤ maxLen) ∧ w.heap.size ≤ (⟨yk.1, 5, B.map (int .u8), yk.2⟩ : Ent).g ∧ St w [⟨yk.1, 5, B.map (int .u8), yk.2⟩] w') from (bclone_c B ad m c w (hsA.at_ hs (fun b hb => (qC (by show g2 ≠ b; omega) (qC (by show g1 ≠ b; omega) qE)))) (by omega) (by omega)).mono fun e w' ⟨gv, cv, he, hgv, hcv, hmv, hw⟩ => ⟨(gv, cv), he, ⟨hcv, hmv⟩, hgv, hw⟩).mono fun e w' ⟨x, he, hR, hE, hw⟩ => ⟨x, he, ⟨hR, Nat.le_trans hs.size hE⟩, hs.made hw hE⟩) (fun yk ⟨hRk, hEk⟩ => ?_)
 obtain ⟨gk, ck⟩ := yk
 dsimp only at hRk hEk ⊢
 obtain ⟨hck, hmk⟩ := hRk
 unfold maxLen at hmk
 refine gx ?_
 refine qo (qA rfl) rfl rfl size22 rfl rfl rfl (i := 2) rfl rfl (by simp [] <;> omega) (cs' := [int .i64 k, int .i64 t, int .i64 f, int .i64 l, slice (some ⟨gk, 0, none⟩) m ck]) (rfl) (H' := [⟨gk, 5, B.map (int .u8), ck⟩, ⟨g2, 38, [int .i64 0, int .i64 0, int .i64 0, int .i64 0, slice none 0 0], 5⟩, ⟨g1, 38, [int .i64 k, int .i64 t, int .i64 f, int .i64 l, slice (some ⟨gk, 0, none⟩) m ck], 5⟩]) rfl ?_
 iterate 9 refine gx ?_
 exact qb rfl agg38 size38 rfl (vs := [int .i64 k, int .i64 t, int .i64 f, int .i64 l, slice (some ⟨gk, 0, none⟩) m ck]) rfl (qS (i := 1) (ent := ⟨g2, 38, [int .i64 k, int .i64 t, int .i64 f, int .i64 l, slice (some ⟨gk, 0, none⟩) m ck], 5⟩) rfl rfl rfl) (fun w hs => ⟨gk, ck, rfl, hEk, hck, by unfold maxLen; omega, ((hs.erase (i := 2) rfl (by assumption)).erase (i := 1) rfl (by assumption))⟩)
theorem grow_c (n : Nat) (h0 : 0 < n) (hn : n ≤ 140737488355328) (w : World) : Calls Tryd.prog 59 #[.slice none 0 0, .int .i64 (n : Int)] w fun e w' => ∃ g c', e = .returned (.slice (some ⟨g, 0, none⟩) 0 c') ∧ w.heap.size ≤ g ∧ 0 ≤ c' ∧ c' ≤ maxLen ∧ St w [⟨g, 5, [], c'⟩] w' := by
 refine qN (args := [.slice none 0 0, .int .i64 (n : Int)]) Tryd.func59 rfl Tryd.ntmps59 (by simp) ?_
 refine qD [0, 1] ?_
 iterate 12 refine gx ?_
 refine qQ rfl (fun hq0 => ?_) (fun hq0 => ?_)
 ·exfalso; omega
 ·iterate 7 refine gx ?_
  refine qB (qA rfl) rfl (Gets.capSlice rfl Tryd.underlying22 rfl) ?_
  iterate 2 refine gx ?_
  refine qB (qA rfl) rfl (Gets.sub rfl rfl rfl (r := 0) (w64 (by omega) (by omega))) ?_
  refine qB (qA rfl) rfl (Gets.sub rfl rfl rfl (r := (n : Int)) (w64 (by omega) (by omega))) ?_
  iterate 3 refine gx ?_
  refine qD [0, 1, 4] ?_
  iterate 6 refine gx ?_
  refine qQ rfl (fun hq1 => ?_) (fun hq1 => ?_)
  ·iterate 3 refine gx ?_
   refine qB (qA rfl) rfl (Gets.capSlice rfl Tryd.underlying22 rfl) ?_
   refine qB (qA rfl) rfl (qu rfl Tryd.underlying22 size5 rfl bnd.dflt (bnd.at_ (l := 0) rfl rfl) (by omega) (by omega) (cutA_zero _ _ _) (ln := 0) (cp := 0) (by omega) (by omega)) ?_
   refine gx ?_
   refine TL.growNil (nn := n) (qA rfl) rfl rfl Tryd.underlying22 Tryd.underlying3 mk5 rfl rfl rfl (by omega) (by omega) (by omega) (fun gr cr hgr hcr hmr => ?_)
   iterate 2 refine gx ?_
   refine qB (qA rfl) rfl (qu rfl Tryd.underlying22 size5 rfl bnd.dflt (bnd.at_ (l := 0) rfl rfl) (by omega) (by omega) (cutA_zero _ _ _) (ln := 0) (cp := cr) (by omega) (by omega)) ?_
   iterate 3 refine gx ?_
   refine qD [0, 4] ?_
   iterate 7 refine gx ?_
   exact qK rfl rfl (fun w hs => ⟨gr, cr, rfl, hgr, by omega, hmr, hs⟩)
  ·exfalso; omega
theorem grow_0 (w : World) : Calls Tryd.prog 59 #[.slice none 0 0, .int .i64 0] w fun e w' => e = .returned (.slice none 0 0) ∧ St w [] w' := by
 refine qN (args := [.slice none 0 0, .int .i64 0]) Tryd.func59 rfl Tryd.ntmps59 (by simp) ?_
 refine qD [0, 1] ?_
 iterate 12 refine gx ?_
 refine qQ rfl (fun hq0 => ?_) (fun hq0 => ?_)
 ·exfalso; omega
 ·iterate 7 refine gx ?_
  refine qB (qA rfl) rfl (Gets.capSlice rfl Tryd.underlying22 rfl) ?_
  iterate 2 refine gx ?_
  refine qB (qA rfl) rfl (Gets.sub rfl rfl rfl (r := 0) (w64 (by omega) (by omega))) ?_
  refine qB (qA rfl) rfl (Gets.sub rfl rfl rfl (r := 0) (w64 (by omega) (by omega))) ?_
  iterate 3 refine gx ?_
  refine qD [0, 1, 4] ?_
  iterate 6 refine gx ?_
  refine qQ rfl (fun hq1 => ?_) (fun hq1 => ?_)
  ·exfalso; omega
  ·iterate 9 refine gx ?_
   exact qK rfl rfl (fun w hs => ⟨rfl, hs⟩)
structure WPq where
 k : Nat
 v : Value
 He : List Ent
def totN (Ps : List (List Int)) (i : Nat) : Nat := (Ps.take i).flatten.length
theorem totN_succ {Ps : List (List Int)} {i : Nat} (h : i < Ps.length) : totN Ps (i + 1) = totN Ps i + (Ps.getD i []).length := by
 unfold totN
 have hf := flat_succ (i := i) (Ps := Ps) h []
 simp only [List.nil_append] at hf
 rw [hf, List.length_append]
theorem totN_le (Ps : List (List Int)) (i : Nat) : totN Ps i ≤ Ps.flatten.length := by
 unfold totN
 have := congrArg (fun l => (List.flatten l).length) (List.take_append_drop i Ps)
 simp only [List.flatten_append, List.length_append] at this
 omega
theorem totN_all {Ps : List (List Int)} {m : Nat} (h : Ps.length ≤ m) : totN Ps m = Ps.flatten.length := by
 unfold totN; rw [List.take_of_length_le h]
theorem totN_0 (Ps : List (List Int)) : totN Ps 0 = 0 := rfl
theorem concat_s (Ps : List (List Int)) (A : Option Addr) (m c : Nat) (w : World) (hP : PartsO w A m Ps) (hmc : m ≤ c) (hcm : c ≤ 9223372036854775807) (hS : 0 < Ps.flatten.length) (hT : Ps.flatten.length ≤ 140737488355328) : Calls Tryd.prog 42 #[.slice A m c] w fun e w' => ∃ v He, e = .returned v ∧ Own w.heap.size 5 .u8 v Ps.flatten He ∧ St w He w' := by
 refine qN (args := [.slice A m c]) Tryd.func42 rfl Tryd.ntmps42 (by simp) ?_
 refine qD [0] ?_
 iterate 19 refine gx ?_
 refine qk (ι := Nat) (fun i => [(0, .slice A m c), (3, .int .i64 (totN Ps i : Int)), (9, .slice A m c), (10, .int .i64 (m : Int)), (11, .int .i64 (i : Int))]) (fun i => []) (fun i => m - i) (fun i => i ≤ m) 0 (Nat.zero_le _) (qP (i := 0) rfl rfl (by first | omega | (dsimp only; omega) | rfl) (by first | omega | (dsimp only; omega) | rfl) (qG (i := 3) rfl (by rw [totN_0]; rfl) (qP (i := 9) rfl rfl (by first | omega | (dsimp only; omega) | rfl) (by first | omega | (dsimp only; omega) | rfl) (qG (i := 10) rfl (by first | omega | rfl) (qG (i := 11) rfl (by first | omega | rfl) (qO)))))) (fun w h => h) (fun i hC0 => ?_)
 iterate 6 refine gx ?_
 refine qQ rfl (fun hq0 => ?_) (fun hq0 => ?_)
 ·obtain ⟨b, off, hE, hb, hcells⟩ := hP.2.resolve_left (by omega)
  subst hE
  obtain ⟨Ai, mi, ci, hci, hSi, hmi⟩ := hcells i (by omega)
  have hoff : off + i = (off + i) := rfl
  have hPl := hP.1
  have hSl := hSi.1
  have htl := totN_succ (Ps := Ps) (i := i) (by omega)
  have htm := totN_le Ps (i + 1)
  iterate 6 refine gx ?_
  refine qB (qA rfl) rfl (qc rfl Tryd.underlying52 size22 rfl rfl (i := i) (by omega) (by omega) (off' := (off + i)) (by omega)) ?_
  refine qB (qA rfl) rfl (qJ rfl agg22 rfl (qd (hoff ▸ hci) hb qE)) ?_
  iterate 3 refine gx ?_
  refine qD [0, 3, 5, 9, 10, 11] ?_
  iterate 5 refine gx ?_
  refine qB (qA rfl) rfl (qT rfl rfl rfl (r := ((totN Ps i : Int) + (mi : Int))) (w64 (by omega) (by omega))) ?_
  iterate 3 refine gx ?_
  refine qD [0, 3, 9, 10, 11] ?_
  iterate 6 refine gx ?_
  refine qQ rfl (fun hq1 => ?_) (fun hq1 => ?_)
  ·exfalso; omega
  ·iterate 4 refine gx ?_
   refine qB (qA rfl) rfl (qT rfl rfl rfl (r := ((i : Int) + 1)) (w64 (by omega) (by omega))) ?_
   iterate 2 refine gx ?_
   exact qj (i + 1) (by omega) (by omega) (qP (i := 0) rfl rfl (by first | omega | (dsimp only; omega) | rfl) (by first | omega | (dsimp only; omega) | rfl) (qG (i := 3) rfl (by first | omega | rfl) (qP (i := 9) rfl (by first | rfl | (congr 2; omega)) (by first | omega | (dsimp only; omega) | rfl) (by first | omega | (dsimp only; omega) | rfl) (qG (i := 10) rfl (by first | omega | rfl) (qG (i := 11) rfl (by first | omega | rfl) (qO)))))) (fun w h => h)
 ·have hall := totN_all (Ps := Ps) (m := m) (by have := hP.1; omega)
  obtain rfl : m = i := by omega
  iterate 8 refine gx ?_
  refine qg (ι := Nat × Nat) (V := fun yg => .slice (some ⟨yg.1, 0, none⟩) 0 yg.2) (R := fun yg => (yg.2 ≤ maxLen) ∧ w.heap.size ≤ (⟨yg.1, 5, [], yg.2⟩ : Ent).g) (H' := fun yg => [⟨yg.1, 5, [], yg.2⟩]) (qA rfl) rfl enters59 rfl rfl (fun w hs => (show Calls Tryd.prog 59 #[.slice none 0 0, .int .i64 (totN Ps m : Int)] w (fun e w' => ∃ yg : Nat × Nat, e = .returned (.slice (some ⟨yg.1, 0, none⟩) 0 yg.2) ∧ (yg.2 ≤ maxLen) ∧ w.heap.size ≤ (⟨yg.1, 5, [], yg.2⟩ : Ent).g ∧ St w [⟨yg.1, 5, [], yg.2⟩] w') from (grow_c ((totN Ps m)) (by omega) (by omega) w).mono fun e w' ⟨gv, cv, he, hgv, hcv, hmv, hw⟩ => ⟨(gv, cv), he, hmv, hgv, hw⟩).mono fun e w' ⟨x, he, hR, hE, hw⟩ => ⟨x, he, ⟨hR, Nat.le_trans hs.size hE⟩, hs.made hw hE⟩) (fun yg ⟨hRg, hEg⟩ => ?_)
  obtain ⟨gg, cg⟩ := yg
  dsimp only at hRg hEg ⊢
  iterate 3 refine gx ?_
  refine qD [0, 6] ?_
  iterate 9 refine gx ?_
  refine qk (ι := WPq) (fun x => [(6, x.v), (25, .slice A m c), (26, .int .i64 (m : Int)), (27, .int .i64 (x.k : Int))]) (fun x => [] ++ x.He) (fun x => m - x.k) (fun x => Own w.heap.size 5 .u8 x.v (Ps.take x.k).flatten x.He ∧ x.k ≤ m) (⟨0, .slice (some ⟨gg, 0, none⟩) 0 cg, [⟨gg, 5, [], cg⟩]⟩ : WPq) ⟨.inr ⟨gg, cg, rfl, rfl, hEg, Nat.zero_le _, hRg⟩, Nat.zero_le _⟩ (qI (i := 6) rfl (qP (i := 25) rfl rfl (by first | omega | (dsimp only; omega) | rfl) (by first | omega | (dsimp only; omega) | rfl) (qG (i := 26) rfl (by first | omega | rfl) (qG (i := 27) rfl (by first | omega | rfl) (qO))))) (fun w h => h) (fun x hC1 => ?_)
  obtain ⟨k, v, He⟩ := x
  obtain ⟨hown, hC2⟩ := hC1
  dsimp only at hown hC2 ⊢
  have hPl := hP.1
  iterate 6 refine gx ?_
  refine qQ rfl (fun hq2 => ?_) (fun hq2 => ?_)
  ·obtain ⟨b, off, hE, hb, hcells⟩ := hP.2.resolve_left (by omega)
   subst hE
   obtain ⟨Ai, mi, ci, hci, hSi, hmi⟩ := hcells k (by omega)
   have hoff : off + k = (off + k) := rfl
   have hPl := hP.1
   have hSl := hSi.1
   have htl := totN_succ (Ps := Ps) (i := k) (by omega)
   have htm := totN_le Ps (k + 1)
   iterate 6 refine gx ?_
   refine qB (qA rfl) rfl (qc rfl Tryd.underlying52 size22 rfl rfl (i := k) (by omega) (by omega) (off' := (off + k)) (by omega)) ?_
   refine qB (qA rfl) rfl (qJ rfl agg22 rfl (qd (hoff ▸ hci) hb (qU qE (hown.ne hb)))) ?_
   iterate 6 refine gx ?_
   have hlt : (Ps.take k).flatten.length = totN Ps k := rfl
   refine TL.appendOwn (H := []) (qA rfl) rfl rfl Tryd.underlying22 mk5 rfl rfl rfl (W := (Ps.take k).flatten) (B := Ps.getD k []) hown (fun w hs => hSi.at_ hs (fun b hb => qU qE (hown.ne hb))) (by omega) (by omega) (fun vo Ho ho hne => ?_)
   iterate 4 refine gx ?_
   refine qD [6, 25, 26, 27] ?_
   refine gx ?_
   refine qB (qA rfl) rfl (qT rfl rfl rfl (r := ((k : Int) + 1)) (w64 (by omega) (by omega))) ?_
   iterate 2 refine gx ?_
   exact qj (⟨k + 1, vo, Ho⟩ : WPq) (by show m - (k + 1) < m - k; omega) ⟨by show Own _ _ _ vo (Ps.take (k + 1)).flatten Ho; have := flat_succ (i := k) (Ps := Ps) (by omega) []; simp only [List.nil_append] at this; rw [this]; exact ho, by show k + 1 ≤ m; omega⟩ (qI (i := 6) rfl (qP (i := 25) rfl (by first | rfl | (congr 2; omega)) (by first | omega | (dsimp only; omega) | rfl) (by first | omega | (dsimp only; omega) | rfl) (qG (i := 26) rfl (by first | omega | rfl) (qG (i := 27) rfl (by first | omega | rfl) (qO))))) (fun w h => h)
  ·have htk : Ps.take k = Ps := List.take_of_length_le (by omega)
   rw [htk] at hown
   iterate 12 refine gx ?_
   exact qK rfl rfl (fun w hs => ⟨_, _, rfl, hown, hs⟩)
theorem concat_0 (Ps : List (List Int)) (A : Option Addr) (m c : Nat) (w : World) (hP : PartsO w A m Ps) (hmc : m ≤ c) (hcm : c ≤ 9223372036854775807) (hS : Ps.flatten.length = 0) (hT : Ps.flatten.length ≤ 140737488355328) : Calls Tryd.prog 42 #[.slice A m c] w fun e w' => ∃ v He, e = .returned v ∧ Own w.heap.size 5 .u8 v Ps.flatten He ∧ St w He w' := by
 refine qN (args := [.slice A m c]) Tryd.func42 rfl Tryd.ntmps42 (by simp) ?_
 refine qD [0] ?_
 iterate 19 refine gx ?_
 refine qk (ι := Nat) (fun i => [(0, .slice A m c), (3, .int .i64 (totN Ps i : Int)), (9, .slice A m c), (10, .int .i64 (m : Int)), (11, .int .i64 (i : Int))]) (fun i => []) (fun i => m - i) (fun i => i ≤ m) 0 (Nat.zero_le _) (qP (i := 0) rfl rfl (by first | omega | (dsimp only; omega) | rfl) (by first | omega | (dsimp only; omega) | rfl) (qG (i := 3) rfl (by rw [totN_0]; rfl) (qP (i := 9) rfl rfl (by first | omega | (dsimp only; omega) | rfl) (by first | omega | (dsimp only; omega) | rfl) (qG (i := 10) rfl (by first | omega | rfl) (qG (i := 11) rfl (by first | omega | rfl) (qO)))))) (fun w h => h) (fun i hC0 => ?_)
 iterate 6 refine gx ?_
 refine qQ rfl (fun hq0 => ?_) (fun hq0 => ?_)
 ·obtain ⟨b, off, hE, hb, hcells⟩ := hP.2.resolve_left (by omega)
  subst hE
  obtain ⟨Ai, mi, ci, hci, hSi, hmi⟩ := hcells i (by omega)
  have hoff : off + i = (off + i) := rfl
  have hPl := hP.1
  have hSl := hSi.1
  have htl := totN_succ (Ps := Ps) (i := i) (by omega)
  have htm := totN_le Ps (i + 1)
  iterate 6 refine gx ?_
  refine qB (qA rfl) rfl (qc rfl Tryd.underlying52 size22 rfl rfl (i := i) (by omega) (by omega) (off' := (off + i)) (by omega)) ?_
  refine qB (qA rfl) rfl (qJ rfl agg22 rfl (qd (hoff ▸ hci) hb qE)) ?_
  iterate 3 refine gx ?_
  refine qD [0, 3, 5, 9, 10, 11] ?_
  iterate 5 refine gx ?_
  refine qB (qA rfl) rfl (qT rfl rfl rfl (r := ((totN Ps i : Int) + (mi : Int))) (w64 (by omega) (by omega))) ?_
  iterate 3 refine gx ?_
  refine qD [0, 3, 9, 10, 11] ?_
  iterate 6 refine gx ?_
  refine qQ rfl (fun hq1 => ?_) (fun hq1 => ?_)
  ·exfalso; omega
  ·iterate 4 refine gx ?_
   refine qB (qA rfl) rfl (qT rfl rfl rfl (r := ((i : Int) + 1)) (w64 (by omega) (by omega))) ?_
   iterate 2 refine gx ?_
   exact qj (i + 1) (by omega) (by omega) (qP (i := 0) rfl rfl (by first | omega | (dsimp only; omega) | rfl) (by first | omega | (dsimp only; omega) | rfl) (qG (i := 3) rfl (by first | omega | rfl) (qP (i := 9) rfl (by first | rfl | (congr 2; omega)) (by first | omega | (dsimp only; omega) | rfl) (by first | omega | (dsimp only; omega) | rfl) (qG (i := 10) rfl (by first | omega | rfl) (qG (i := 11) rfl (by first | omega | rfl) (qO)))))) (fun w h => h)
 ·have hall := totN_all (Ps := Ps) (m := m) (by have := hP.1; omega)
  obtain rfl : m = i := by omega
  iterate 8 refine gx ?_
  refine qM (qA rfl) rfl enters59 rfl rfl (v := .slice none 0 0) (fun w hs => by have h := grow_0 w; rw [show (0 : Int) = ((totN Ps m : Nat) : Int) by omega] at h; exact h) ?_
  iterate 3 refine gx ?_
  refine qD [0, 6] ?_
  iterate 9 refine gx ?_
  refine qk (ι := WPq) (fun x => [(6, x.v), (25, .slice A m c), (26, .int .i64 (m : Int)), (27, .int .i64 (x.k : Int))]) (fun x => [] ++ x.He) (fun x => m - x.k) (fun x => Own w.heap.size 5 .u8 x.v (Ps.take x.k).flatten x.He ∧ x.k ≤ m) (⟨0, .slice none 0 0, []⟩ : WPq) ⟨Own.nil _ _ _, Nat.zero_le _⟩ (qI (i := 6) rfl (qP (i := 25) rfl rfl (by first | omega | (dsimp only; omega) | rfl) (by first | omega | (dsimp only; omega) | rfl) (qG (i := 26) rfl (by first | omega | rfl) (qG (i := 27) rfl (by first | omega | rfl) (qO))))) (fun w h => h) (fun x hC1 => ?_)
  obtain ⟨k, v, He⟩ := x
  obtain ⟨hown, hC2⟩ := hC1
  dsimp only at hown hC2 ⊢
  have hPl := hP.1
  iterate 6 refine gx ?_
  refine qQ rfl (fun hq2 => ?_) (fun hq2 => ?_)
  ·obtain ⟨b, off, hE, hb, hcells⟩ := hP.2.resolve_left (by omega)
   subst hE
   obtain ⟨Ai, mi, ci, hci, hSi, hmi⟩ := hcells k (by omega)
   have hoff : off + k = (off + k) := rfl
   have hPl := hP.1
   have hSl := hSi.1
   have htl := totN_succ (Ps := Ps) (i := k) (by omega)
   have htm := totN_le Ps (k + 1)
   iterate 6 refine gx ?_
   refine qB (qA rfl) rfl (qc rfl Tryd.underlying52 size22 rfl rfl (i := k) (by omega) (by omega) (off' := (off + k)) (by omega)) ?_
   refine qB (qA rfl) rfl (qJ rfl agg22 rfl (qd (hoff ▸ hci) hb (qU qE (hown.ne hb)))) ?_
   iterate 6 refine gx ?_
   have hlt : (Ps.take k).flatten.length = totN Ps k := rfl
   refine TL.appendOwn (H := []) (qA rfl) rfl rfl Tryd.underlying22 mk5 rfl rfl rfl (W := (Ps.take k).flatten) (B := Ps.getD k []) hown (fun w hs => hSi.at_ hs (fun b hb => qU qE (hown.ne hb))) (by omega) (by omega) (fun vo Ho ho hne => ?_)
   iterate 4 refine gx ?_
   refine qD [6, 25, 26, 27] ?_
   refine gx ?_
   refine qB (qA rfl) rfl (qT rfl rfl rfl (r := ((k : Int) + 1)) (w64 (by omega) (by omega))) ?_
   iterate 2 refine gx ?_
   exact qj (⟨k + 1, vo, Ho⟩ : WPq) (by show m - (k + 1) < m - k; omega) ⟨by show Own _ _ _ vo (Ps.take (k + 1)).flatten Ho; have := flat_succ (i := k) (Ps := Ps) (by omega) []; simp only [List.nil_append] at this; rw [this]; exact ho, by show k + 1 ≤ m; omega⟩ (qI (i := 6) rfl (qP (i := 25) rfl (by first | rfl | (congr 2; omega)) (by first | omega | (dsimp only; omega) | rfl) (by first | omega | (dsimp only; omega) | rfl) (qG (i := 26) rfl (by first | omega | rfl) (qG (i := 27) rfl (by first | omega | rfl) (qO))))) (fun w h => h)
  ·have htk : Ps.take k = Ps := List.take_of_length_le (by omega)
   rw [htk] at hown
   iterate 12 refine gx ?_
   exact qK rfl rfl (fun w hs => ⟨_, _, rfl, hown, hs⟩)
theorem concat_c (Ps : List (List Int)) (A : Option Addr) (m c : Nat) (w : World) (hP : PartsO w A m Ps) (hmc : m ≤ c) (hcm : c ≤ 9223372036854775807) (hT : Ps.flatten.length ≤ 140737488355328) : Calls Tryd.prog 42 #[.slice A m c] w fun e w' => ∃ v He, e = .returned v ∧ Own w.heap.size 5 .u8 v Ps.flatten He ∧ St w He w' := by
 by_cases h : Ps.flatten.length = 0
 ·exact concat_0 Ps A m c w hP hmc hcm h hT
 ·exact concat_s Ps A m c w hP hmc hcm (by omega) hT
/-
 Contracts of Literal and Part.
-/
theorem enters42 : Enters Tryd.prog 42 := ⟨_, Tryd.func42, by kernel_rfl, by kernel_rfl⟩
theorem literal_c (t : Int) (Ps : List (List Int)) (A : Option Addr) (m c : Nat) (w : World) (hP : PartsO w A m Ps) (hmc : m ≤ c) (hcm : c ≤ 9223372036854775807) (hT : Ps.flatten.length ≤ 140737488355328) : Calls Tryd.prog 26 #[.int .i64 t, .slice A m c] w fun e w' => ∃ A' c' He, e = .returned (.agg ([int .i64 2, int .i64 t, int .i64 0, int .i64 0, slice A' Ps.flatten.length ((c'))]).toArray) ∧ Own w.heap.size 5 .u8 (.slice A' Ps.flatten.length c') Ps.flatten He ∧ St w He w' := by
 refine qN (args := [.int .i64 t, .slice A m c]) Tryd.func26 rfl Tryd.ntmps26 (by simp) ?_
 refine qD [0, 1] ?_
 iterate 2 refine gx ?_
 refine qW (fun g1 hg1 => ?_)
 iterate 6 refine gx ?_
 refine qg (ι := Value × List Ent) (V := fun yl => yl.1) (R := fun yl => Own w.heap.size 5 .u8 yl.1 Ps.flatten yl.2) (H' := fun yl => [⟨g1, 38, [int .i64 0, int .i64 0, int .i64 0, int .i64 0, slice none 0 0], 5⟩] ++ yl.2) (qA rfl) rfl enters42 rfl rfl (fun w hs => (concat_c Ps A m c w (hP.at_ hs (fun b hb => (qC (by show g1 ≠ b; omega) qE))) hmc hcm hT).mono fun e w' ⟨v, He, he, ho, hw⟩ => ⟨(v, He), he, own_mono ho hs.size, st_call hs hw ho.new⟩) (fun yl hOl => ?_)
 obtain ⟨vl, Hl⟩ := yl
 dsimp only at hOl ⊢
 obtain ⟨Al, cl, hvl, hcl, hdl⟩ := hOl.form
 subst hvl
 refine qB (qA rfl) rfl (qf rfl (vs := [(0, int .i64 2), (1, int .i64 t), (4, slice Al Ps.flatten.length cl)]) rfl (fun w => by first | rfl | kernel_rfl) (v := .agg ([int .i64 2, int .i64 t, int .i64 0, int .i64 0, slice Al Ps.flatten.length cl]).toArray)) ?_
 refine qs (qA rfl) rfl rfl size38 rfl (vs := [int .i64 2, int .i64 t, int .i64 0, int .i64 0, slice Al Ps.flatten.length cl]) rfl (by simp []) (by simp [Value.oneCell']) (i := 0) (ent := ⟨g1, 38, [int .i64 0, int .i64 0, int .i64 0, int .i64 0, slice none 0 0], 5⟩) rfl rfl (by simp []) (H' := [⟨g1, 38, [int .i64 2, int .i64 t, int .i64 0, int .i64 0, slice Al Ps.flatten.length cl], 5⟩] ++ Hl) rfl ?_
 iterate 3 refine gx ?_
 exact qb rfl agg38 size38 rfl (vs := [int .i64 2, int .i64 t, int .i64 0, int .i64 0, slice Al Ps.flatten.length cl]) rfl (qS (i := 0) (ent := ⟨g1, 38, [int .i64 2, int .i64 t, int .i64 0, int .i64 0, slice Al Ps.flatten.length cl], 5⟩) rfl rfl rfl) (fun w hs => ⟨Al, cl, Hl, rfl, hOl, St.drop (H := Hl) hs (by assumption)⟩)
theorem literal1_c (t : Int) (B : List Int) (A : Option Addr) (n c gp tt tot : Nat) (w : World) (hl : Ent.lies ⟨gp, tt, [slice A n c], tot⟩ w) (hsB : Src w A n .u8 B) (hnc : n ≤ c) (h0 : 0 < n) (hn : n ≤ 140737488355328) :
  Calls Tryd.prog 26 #[.int .i64 t, .slice (some ⟨gp, 0, none⟩) 1 1] w fun e w' => ∃ g c', e = .returned (.agg ([int .i64 2, int .i64 t, int .i64 0, int .i64 0, slice (some ⟨g, 0, none⟩) n c']).toArray) ∧ w.heap.size ≤ g ∧ n ≤ c' ∧ c' ≤ maxLen ∧ St w [⟨g, 5, B.map (int .u8), c'⟩] w' := by
 have hfl : [B].flatten = B := by simp
 have h := literal_c t [B] (some ⟨gp, 0, none⟩) 1 1 w (parts_one hl hsB hnc) (Nat.le_refl _) (by omega) (by rw [hfl, hsB.1]; omega)
 rw [hfl, hsB.1] at h
 refine h.mono fun e w' ⟨A', c', He, he, ho, hw⟩ => ?_
 obtain ⟨g, c2, h1, h2, h3, h4, h5⟩ := own_some ho (by intro h; cases h; omega)
 rw [hsB.1] at h1 h4
 cases h1
 subst h2
 exact ⟨g, c', he, h3, h4, h5, hw⟩
/-
 The reference of layer 5: Few, single, Find.
-/
/-
 The reference of layer 5: gap, Check, Valid.
-/
/-
 The reference of layer 5: Totals.
-/
/-
 The reference of layer 5: All, Same.
-/
theorem enters22 : Enters Tryd.prog 22 := ⟨_, Tryd.func22, by kernel_rfl, by kernel_rfl⟩
instance : Sli Tryd.prog 25 38 := ⟨Tryd.underlying25⟩
theorem rall_c (A A2 : Option Addr) (m c m2 c2 : Nat) (Cs Es : List CV) (hmm : m ≤ 1000000000) (hmm2 : m2 ≤ 1000000000) (hN : NumsC Cs) (w : World) (hC : SrcC w A m Cs) (hC2 : SrcC w A2 m2 Es) (hD : DatC w Cs) (hE : DatC w Es) : Calls Tryd.prog 10 #[.slice A m c, .slice A2 m2 c2] w fun e w' => e = .returned (.bool (decide (sameC Cs Es))) ∧ St w [] w' := by
 refine qN (args := [.slice A m c, .slice A2 m2 c2]) Tryd.func10 rfl Tryd.ntmps10 (by simp) ?_
 refine qD [0, 1] ?_
 iterate 15 refine gx ?_
 refine qQ rfl (fun hq0 => ?_) (fun hq0 => ?_)
 ·iterate 7 refine gx ?_
  exact qK rfl rfl (fun w hs => ⟨dec_f (fun h => by first | exact hq2 (sameC_at h hx hy) | (have h1 := sameC_len h; have h2 := hC.1; have h3 := hC2.1; omega)), hs⟩)
 ·iterate 8 refine gx ?_
  refine qD [0, 1, 4, 5] ?_
  refine gx ?_
  refine qk (ι := Nat) (fun i => [(0, .slice A m c), (1, .slice A2 m2 c2), (5, .int .i64 (i : Int))]) (fun i => []) (fun i => m - i) (fun i => i ≤ m ∧ ∀ (j : Nat) (x y : CV), j < i → Cs[j]? = some x → Es[j]? = some y → sameV x y) 0 ⟨Nat.zero_le _, fun j x y h => absurd h (Nat.not_lt_zero j)⟩ (qP (i := 0) rfl rfl (by first | omega | (dsimp only; omega) | rfl) (by first | omega | (dsimp only; omega) | rfl) (qP (i := 1) rfl rfl (by first | omega | (dsimp only; omega) | rfl) (by first | omega | (dsimp only; omega) | rfl) (qG (i := 5) rfl (by first | omega | rfl) (qO)))) (fun w h => h) (fun i hC0 => ?_)
  obtain ⟨hC0, hj⟩ := hC0
  iterate 9 refine gx ?_
  refine qQ rfl (fun hq1 => ?_) (fun hq1 => ?_)
  ·obtain ⟨b, off, hAe, hb, hrw⟩ := hC.some_ (i := i) (by omega)
   subst hAe
   obtain ⟨x, hx⟩ := hC.get (i := i) (by omega)
   have hnx := hN i x hx
   unfold NumC at hnx
   have hlbx := lenV_bd (k := x.k) (l := x.l) (m := x.m) (by omega) (by omega)
   obtain ⟨b2, off2, hAe2, hb2, hrw2⟩ := hC2.some_ (i := i) (by omega)
   subst hAe2
   obtain ⟨y, hy⟩ := hC2.get (i := i) (by omega)
   iterate 5 refine gx ?_
   refine TC.mix (by kernel_rfl) [0, 0, 0, 1, 0, 0, 0, 1, 1, 0] rfl (by kernel_rfl) ?_
   iterate 2 refine gx ?_
   refine qH (qA rfl) rfl (fun _ => qc rfl Tryd.underlying25 size38 rfl rfl (i := i) (by omega) (by omega) (off' := (off + 5 * i)) (by omega)) ?_
   refine qV (qA rfl) rfl (qa rfl agg38 size38 rfl rfl (Row.old (fun jj u h => hrw i x hx jj u h) hb qE)) ?_
   iterate 2 refine gx ?_
   refine qH (qA rfl) rfl (fun _ => qc rfl Tryd.underlying25 size38 rfl rfl (i := i) (by omega) (by omega) (off' := (off2 + 5 * i)) (by omega)) ?_
   refine qV (qA rfl) rfl (qa rfl agg38 size38 rfl rfl (Row.old (fun jj u h => hrw2 i y hy jj u h) hb2 qE)) ?_
   refine TM.call0 (qA rfl) rfl enters22 rfl rfl (v := .bool (decide (sameP x.k x.t x.f x.l y.k y.t y.f y.l x.B y.B))) (fun w hs => rsame_c x.k x.t x.f x.l y.k y.t y.f y.l x.A y.A x.m x.c y.m y.c x.B y.B (hD i x hx).2 (hE i y hy).2 w ((hD i x hx).1.at_ hs (fun b hb => qE)) ((hE i y hy).1.at_ hs (fun b hb => qE))) ?_
   iterate 3 refine gx ?_
   refine qD [0, 1, 5, 26] ?_
   refine qQ rfl (fun hq2 => ?_) (fun hq2 => ?_)
   ·iterate 11 refine gx ?_
    exact qK rfl rfl (fun w hs => ⟨dec_f (fun h => by first | exact hq2 (sameC_at h hx hy) | (have h1 := sameC_len h; have h2 := hC.1; have h3 := hC2.1; omega)), hs⟩)
   ·iterate 5 refine gx ?_
    refine qB (qA rfl) rfl (qT rfl rfl rfl (r := ((i : Int) + 1)) (w64 (by omega) (by omega))) ?_
    iterate 2 refine gx ?_
    exact qj (i + 1) (by omega) ⟨by omega, sameC_succ hj hx hy (Decidable.not_not.1 hq2)⟩ (qP (i := 0) rfl (by first | rfl | (congr 2; omega)) (by first | omega | (dsimp only; omega) | rfl) (by first | omega | (dsimp only; omega) | rfl) (qP (i := 1) rfl (by first | rfl | (congr 2; omega)) (by first | omega | (dsimp only; omega) | rfl) (by first | omega | (dsimp only; omega) | rfl) (qG (i := 5) rfl (by first | omega | rfl) (qO)))) (fun w h => h)
  ·iterate 11 refine gx ?_
   exact qK rfl rfl (fun w hs => ⟨dec_t (sameC_of (by have := hC.1; have := hC2.1; omega) fun i' x y hx hy => hj i' x y (by have := (List.getElem?_eq_some_iff.1 hx).1; have := hC.1; omega) hx hy), hs⟩)
/-
 A slice of the call's own whose elements are values of one cell each; blocks that a loop has made, one a round; three-number arrays.
-/
section
variable {P : Program} {ops : Array Oper} {Q : Exit → Act → World → Prop} {n : Sz} {w0 : World} {L L' : List (Nat × Value)} {H : List Ent}
variable {o : Oper} {rest : List Oper} {v u : Value} {x y z : Operand} {k m j : Nat} {t t' e : TypeId} {ks : List Nat} {kd : IntKind}
end
/-
 The reference of layer 5: With, Sort.
-/
/-
 The code of layer 5: upTo, its iterator, overlap, gap.
-/
theorem agg100 : (isAgg 100).run Tryd.prog = fun w => .ok true w := isAgg_yes Tryd.underlying100 rfl
theorem agg82 : (isAgg 82).run Tryd.prog = fun w => .ok false w := isAgg_no Tryd.underlying82 rfl
theorem enters67 : Enters Tryd.prog 67 := ⟨_, Tryd.func67, by kernel_rfl, by kernel_rfl⟩
theorem size100 : (Tryd.prog.info? 100).map (·.size) = some 3 := by kernel_rfl
theorem zero100 : (Tryd.prog.info? 100).bind (·.zero) = some (.agg #[.int .i64 0, .int .i64 0, .int .i64 0]) := by kernel_rfl
theorem zero3 : (Tryd.prog.info? 3).bind (·.zero) = some (.int .i64 0) := by kernel_rfl
theorem zero4 : (Tryd.prog.info? 4).bind (·.zero) = some (.bool false) := by kernel_rfl
instance : Fld Tryd.prog 100 0 0 := ⟨⟨_, _, _, Tryd.underlying100, rfl, size64, rfl⟩⟩
instance : Fld Tryd.prog 100 1 2 := ⟨⟨_, _, _, Tryd.underlying100, rfl, size3, rfl⟩⟩
instance : Siz Tryd.prog 100 3 := ⟨size100⟩
instance : Sli Tryd.prog 82 100 := ⟨Tryd.underlying82⟩
instance : Zer Tryd.prog 100 [int .i64 0, int .i64 0, int .i64 0] := ⟨⟨_, zero100, rfl⟩⟩
instance : Zer Tryd.prog 3 [int .i64 0] := ⟨⟨_, zero3, rfl⟩⟩
instance : Zer Tryd.prog 4 [Value.bool false] := ⟨⟨_, zero4, rfl⟩⟩
theorem upTo_iter (p1 p2 gt m : Nat) (Ts : List TV) (q : Int) (hq : -9223372036854775808 ≤ q ∧ q ≤ 9223372036854775807) (hm : m ≤ 1000000000) (hnum : ∀ t ∈ Ts, (-9223372036854775808 ≤ t.o ∧ t.o ≤ 9223372036854775807) ∧ (-9223372036854775808 ≤ t.l ∧ t.l ≤ 9223372036854775807) ∧ t.x ≤ 9223372036854775807) (w0 : World) (hc0 : CapT w0 p1 p2 gt m Ts q) : IterC Fence.wide 2 Tryd.prog 67 #[.pointer (some ⟨p1, 0, none⟩), .pointer (some ⟨p2, 0, none⟩)] (fun i => #[encP (upF Ts q) i]) (upF Ts q).length 0 (capK p1 p2 gt) w0 := by
 intro l J Jx W hW hJ hJx hY hJ0
 have hc : CapT W p1 p2 gt m Ts q := hc0.keep (fun k hk => hW.block k (hc0.lt hk)) hW.size
 have hc1 := hc.h1
 have hc2 := hc.h2
 have hc3 := hc.h3
 show CallsIn Fence.wide 2 Tryd.prog 67 #[.func (.yield l) #[] #[], .pointer (some ⟨p1, 0, none⟩), .pointer (some ⟨p2, 0, none⟩)] W _
 refine callsIn_from (args := [.func (.yield l) #[] #[], .pointer (some ⟨p1, 0, none⟩), .pointer (some ⟨p2, 0, none⟩)]) Tryd.func67 rfl Tryd.ntmps67 (by simp) ?_
 refine qD [0, 1, 2] ?_
 iterate 2 refine gx ?_
 refine qB (qA rfl) rfl (qJ rfl agg82 rfl (qd hc.s hc.h1 qE)) ?_
 iterate 5 refine gx ?_
 refine TC.loopW (ι := Nat × World) (fun y => y.2) (fun y => [(0, .func (.yield l) #[] #[]), (1, .pointer (some ⟨p1, 0, none⟩)), (2, .pointer (some ⟨p2, 0, none⟩)), (6, .slice (some ⟨gt, 0, none⟩) m m), (7, .int .i64 (m : Int)), (8, .int .i64 (y.1 : Int))]) (fun y => []) (fun y => m - y.1) (fun y => y.1 ≤ m ∧ J (cntT Ts q y.1) y.2 ∧ CapT y.2 p1 p2 gt m Ts q ∧ W.heap.size ≤ y.2.heap.size) (0, W) ⟨Nat.zero_le _, hJ0, hc, Nat.le_refl _⟩ (qI (i := 0) rfl (qI (i := 1) rfl (qI (i := 2) rfl (qP (i := 6) rfl rfl (by first | omega | (dsimp only; omega) | rfl) (by first | omega | (dsimp only; omega) | rfl) (qG (i := 7) rfl (by first | omega | rfl) (qG (i := 8) rfl rfl (qO))))))) (fun w h => h) (fun y hC0 => ?_)
 obtain ⟨k, v⟩ := y
 obtain ⟨hk, hj, hc, hsz⟩ := hC0
 dsimp only at hk hj hc hsz
 change TC _ _ _ v _ _ _
 have hc1 := hc.h1
 have hc2 := hc.h2
 have hc3 := hc.h3
 iterate 6 refine gx ?_
 refine qQ rfl (fun hq0 => ?_) (fun hq0 => ?_)
 ·obtain ⟨x, hkx⟩ : ∃ x, Ts[k]? = some x := ⟨_, List.getElem?_eq_getElem (by have := hc.l; omega)⟩
  have hnx := hnum x (List.mem_of_getElem? hkx)
  iterate 6 refine gx ?_
  refine qB (qA rfl) rfl (qc rfl Tryd.underlying82 size100 rfl rfl (i := k) (by omega) (by omega) (off' := (3 * k)) (by omega)) ?_
  refine qB (qA rfl) rfl (qa rfl agg100 size100 rfl rfl (Row.old (fun jj u h => hc.row hkx h) hc.h3 qE)) ?_
  refine qW (fun g1 hg1 => ?_)
  iterate 3 refine gx ?_
  refine qD [0, 1, 2, 5, 6, 7, 8] ?_
  iterate 4 refine gx ?_
  refine qB (qA rfl) rfl (qJ rfl agg3 rfl (qd hc.x hc.h2 (qC (by show g1 ≠ p2; omega) qE))) ?_
  refine gx ?_
  by_cases hx : (x.x : Int) ≤ q
  ·refine qB (qA rfl) rfl (qh (qr rfl rfl) hx) ?_
   iterate 2 refine gx ?_
   refine qB (qL rfl rfl rfl) rfl (qa rfl agg64 size64 rfl (vs := [int .i64 x.o, int .i64 x.l]) rfl (Row.part (i := 0) (ent := ⟨g1, 100, [int .i64 x.o, int .i64 x.l, int .i64 (x.x : Int)], 3⟩) rfl rfl rfl)) ?_
   refine TL.yield rfl (qL rfl rfl rfl) rfl rfl rfl rfl (T := fun v1 => J (cntT Ts q k + 1) v1 ∧ CapT v1 p1 p2 gt m Ts q ∧ W.heap.size ≤ v1.heap.size) (U := fun v1 => Jx (cntT Ts q k + 1) v1) (fun w hs => up_yield (p := pr x) hJ hY (cntT_lt hkx hx) (cntT_yes hkx hx).2 hj hc hsz hs (by intro e he; rw [List.mem_singleton.1 he]; assumption)) (fun v1 hT => ?_) (fun v1 hU => ?_)
   ·obtain ⟨hj, hc, hsz⟩ := hT
    iterate 4 refine gx ?_
    refine qD [0, 1, 2, 6, 7, 8, 22] ?_
    refine TC.no rfl ?_
    iterate 4 refine gx ?_
    refine qB (qA rfl) rfl (qT rfl rfl rfl (r := ((k : Int) + 1)) (w64 (by omega) (by omega))) ?_
    iterate 2 refine gx ?_
    exact TE.backW (k + 1, v1) (by show m - (k + 1) < m - k; omega) ⟨(by show k + 1 ≤ m; omega), (show J (cntT Ts q (k + 1)) v1 from by rw [(cntT_yes hkx hx).1]; exact hj), hc, hsz⟩ (qI (i := 0) rfl (qI (i := 1) rfl (qI (i := 2) rfl (qP (i := 6) rfl rfl (by first | omega | (dsimp only; omega) | rfl) (by first | omega | (dsimp only; omega) | rfl) (qG (i := 7) rfl (by first | omega | rfl) (qG (i := 8) rfl rfl (qO))))))) (fun w h => h)
   ·iterate 4 refine gx ?_
    refine qD [0, 1, 2, 6, 7, 8, 22] ?_
    refine TC.yes rfl ?_
    iterate 5 refine gx ?_
    exact TE.ret0 rfl (fun w hs => ⟨⟨_, rfl⟩, .inr ⟨cntT Ts q k, cntT_lt hkx hx, hJx _ _ _ hU (St.beside0 hs (by intro e he; cases he))⟩⟩)
  ·refine qB (qA rfl) rfl (qi (qr rfl rfl) hx) ?_
   iterate 8 refine gx ?_
   refine qD [0, 1, 2, 6, 7, 8, 22] ?_
   refine TC.no rfl ?_
   iterate 4 refine gx ?_
   refine qB (qA rfl) rfl (qT rfl rfl rfl (r := ((k : Int) + 1)) (w64 (by omega) (by omega))) ?_
   iterate 2 refine gx ?_
   exact TE.backW (k + 1, v) (by show m - (k + 1) < m - k; omega) ⟨(by show k + 1 ≤ m; omega), (show J (cntT Ts q (k + 1)) v from by rw [cntT_no hkx hx]; exact hj), hc, hsz⟩ (qI (i := 0) rfl (qI (i := 1) rfl (qI (i := 2) rfl (qP (i := 6) rfl rfl (by first | omega | (dsimp only; omega) | rfl) (by first | omega | (dsimp only; omega) | rfl) (qG (i := 7) rfl (by first | omega | rfl) (qG (i := 8) rfl rfl (qO))))))) (fun w h => (h.drop (by assumption)))
 ·iterate 4 refine gx ?_
  exact TE.end0 rfl (fun w hs => ⟨⟨_, rfl⟩, .inl (hJ _ _ _ (show J (upF Ts q).length v from by rw [← cntT_all (m := k) (by have := hc.l; omega)]; exact hj) (St.beside0 hs (by intro e he; cases he)))⟩)
theorem upTo_c (gt m : Nat) (q : Int) (w : World) : Calls Tryd.prog 51 #[.slice (some ⟨gt, 0, none⟩) m m, .int .i64 q] w fun e w' => ∃ y : Nat × Nat, e = .returned (.func (.func 67) #[] #[.pointer (some ⟨y.1, 0, none⟩), .pointer (some ⟨y.2, 0, none⟩)]) ∧ (w.heap.size ≤ y.1 ∧ w.heap.size ≤ y.2) ∧ St w [⟨y.1, 82, [slice (some ⟨gt, 0, none⟩) m m], 1⟩, ⟨y.2, 3, [int .i64 q], 1⟩] w' := by
 refine qN (args := [.slice (some ⟨gt, 0, none⟩) m m, .int .i64 q]) Tryd.func51 rfl Tryd.ntmps51 (by simp) ?_
 refine qD [0, 1] ?_
 iterate 2 refine gx ?_
 refine TL.bx1 (fun g1 hg1 => ?_)
 refine TL.bx1 (fun g2 hg2 => ?_)
 iterate 5 refine gx ?_
 refine qB (qA rfl) rfl (Gets.makeFunc rfl rfl rfl) ?_
 iterate 4 refine gx ?_
 exact qK rfl rfl (fun w hs => ⟨(g1, g2), rfl, ⟨by assumption, by assumption⟩, hs.perm (List.Perm.swap _ _ _)⟩)
theorem overlap_c (p1 p2 gt m : Nat) (Ts : List TV) (q : Int) (hq : -9223372036854775808 ≤ q ∧ q ≤ 9223372036854775807) (hm : m ≤ 1000000000) (hnum : ∀ t ∈ Ts, (-9223372036854775808 ≤ t.o ∧ t.o ≤ 9223372036854775807) ∧ (-9223372036854775808 ≤ t.l ∧ t.l ≤ 9223372036854775807) ∧ t.x ≤ 9223372036854775807) (n : Int) (hn0 : 0 ≤ n ∧ n ≤ 4611686018427387903) (hpos : posF (upF Ts q)) (hend : ∀ p ∈ upF Ts q, p.1 + p.2 ≤ n) (w : World) (hc : CapT w p1 p2 gt m Ts q) : Calls Tryd.prog 50 #[.func (.func 67) #[] #[.pointer (some ⟨p1, 0, none⟩), .pointer (some ⟨p2, 0, none⟩)]] w fun e w' => e = .returned (.bool (decide (ovF (upF Ts q)))) ∧ St w [] w' := by
 have hc1 := hc.h1
 have hc2 := hc.h2
 have hc3 := hc.h3
 refine calls_fromM (args := [.func (.func 67) #[] #[.pointer (some ⟨p1, 0, none⟩), .pointer (some ⟨p2, 0, none⟩)]]) Tryd.func50 rfl Tryd.ntmps50 (by simp) ?_
 refine qD [0] ?_
 iterate 2 refine gx ?_
 refine qW (fun g1 hg1 => ?_)
 iterate 4 refine gx ?_
 refine qW (fun g2 hg2 => ?_)
 refine qo (qA rfl) rfl rfl size3 rfl rfl rfl (i := 0) rfl rfl (by simp [] <;> omega) (cs' := [int .i64 0]) (rfl) (H' := [⟨g2, 3, [int .i64 0], 1⟩, ⟨g1, 4, [Value.bool false], 1⟩]) rfl ?_
 iterate 9 refine gx ?_
 refine TC.range (V := fun i => .agg ([int .i64 ((eP (upF Ts q) i).1), int .i64 ((eP (upF Ts q) i).2)]).toArray) (N := (upF Ts q).length) (c := 0) (Cap := capK p1 p2 gt) rfl rfl rfl rfl enters67 (fun w hs => upTo_iter p1 p2 gt m Ts q hq hm hnum w (hc.at_ hs (fun b hb => (qC (by show g2 ≠ b; omega) (qC (by show g1 ≠ b; omega) qE))))) (fun i => ∀ j r, j < i → (upF Ts q)[j]? = some r → endF (upF Ts q) j ≤ r.1) (fun i => [⟨g2, 3, [int .i64 (endF (upF Ts q) i)], 1⟩, ⟨g1, 4, [Value.bool false], 1⟩]) [] (fun i y => [(2, .pointer (some ⟨g1, 0, none⟩)), (3, .pointer (some ⟨g2, 0, none⟩)), (4, .pointer (some ⟨y, 0, none⟩))]) (fun i y => [⟨y, 64, [int .i64 ((eP (upF Ts q) i).1), int .i64 ((eP (upF Ts q) i).2)], 2⟩]) (fun i => ovF (upF Ts q)) (fun i => [⟨g2, 3, [int .i64 (endF (upF Ts q) (i - 1))], 1⟩, ⟨g1, 4, [Value.bool true], 1⟩]) 0 (fun i => False) (fun i => [⟨g2, 3, [int .i64 (endF (upF Ts q) i)], 1⟩, ⟨g1, 4, [Value.bool false], 1⟩]) (fun j r h => absurd h (Nat.not_lt_zero j)) (fun w h => h) (fun _ => rfl) (fun _ => rfl) (fun _ => rfl) (fun w hs k hk => ⟨Nat.lt_of_lt_of_le (hc.lt hk) hs.size, (have hb := hc.lt hk; (qC (by show g2 ≠ k; omega) (qC (by show g1 ≠ k; omega) qE)))⟩) (fun i y e he => by rw [List.mem_singleton.1 he]; exact Nat.le_refl _) (fun l i v hiN hC hs0 => ?_) (fun l i y v hiN hC hy hyv hs0 => ?_) (fun D W hC hW hM => ?_) (fun D W i hiN hC hW hM => ?_) (fun D W i hiN hC hW hM => ?_)
 ·refine TC.sub (qI (i := 2) rfl (qI (i := 3) rfl (qI (i := 6) rfl (qO)))) ?_
  refine gx ?_
  refine qW (fun g3 hg3 => ?_)
  iterate 2 refine gx ?_
  exact TE.ax g3 hg3 (fun w hs => Nat.le_of_lt (hs.has _ List.mem_cons_self).lt) (qI (i := 2) rfl (qI (i := 3) rfl (qI (i := 4) rfl (qO)))) (fun w h => h)
 ·have hqq := eP_at hiN
  have hqp := hpos _ (List.mem_of_getElem? hqq)
  have hqn := hend _ (List.mem_of_getElem? hqq)
  have heb := endF_bd hpos hend hn0.1 i
  iterate 10 refine gx ?_
  refine qQ rfl (fun hq0 => ?_) (fun hq0 => ?_)
  ·iterate 2 refine gx ?_
   refine qo (qA rfl) rfl rfl size4 rfl rfl rfl (i := 2) rfl rfl (by simp [] <;> omega) (cs' := [Value.bool true]) (rfl) (H' := [⟨y, 64, [int .i64 ((eP (upF Ts q) i).1), int .i64 ((eP (upF Ts q) i).2)], 2⟩, ⟨g2, 3, [int .i64 (endF (upF Ts q) i)], 1⟩, ⟨g1, 4, [Value.bool true], 1⟩]) rfl ?_
   iterate 5 refine gx ?_
   exact TE.roundR ⟨i, _, hqq, hq0⟩ [⟨y, 64, [int .i64 ((eP (upF Ts q) i).1), int .i64 ((eP (upF Ts q) i).2)], 2⟩] (by intro e he; simp only [List.mem_cons, List.not_mem_nil, or_false] at he; subst he; first | exact Nat.le_refl _ | (dsimp only; omega)) (fun w h => h)
  ·iterate 4 refine gx ?_
   refine qM (qA rfl) rfl enters62 rfl rfl (v := .int .i64 (((eP (upF Ts q) i).1) + ((eP (upF Ts q) i).2))) (fun w hs => end_c ((eP (upF Ts q) i).1) ((eP (upF Ts q) i).2) (by omega) w) ?_
   refine qo (qA rfl) rfl rfl size3 rfl rfl rfl (i := 1) rfl rfl (by simp [] <;> omega) (cs' := [int .i64 (((eP (upF Ts q) i).1) + ((eP (upF Ts q) i).2))]) (rfl) (H' := [⟨y, 64, [int .i64 ((eP (upF Ts q) i).1), int .i64 ((eP (upF Ts q) i).2)], 2⟩, ⟨g2, 3, [int .i64 (((eP (upF Ts q) i).1) + ((eP (upF Ts q) i).2))], 1⟩, ⟨g1, 4, [Value.bool false], 1⟩]) rfl ?_
   iterate 2 refine gx ?_
   exact TE.roundN (nov_succ hC hqq hq0) [⟨y, 64, [int .i64 ((eP (upF Ts q) i).1), int .i64 ((eP (upF Ts q) i).2)], 2⟩] (by intro e he; simp only [List.mem_cons, List.not_mem_nil, or_false] at he; subst he; first | exact Nat.le_refl _ | (dsimp only; omega)) (fun w h => by rw [endF_succ hqq]; exact h)
 ·have hno := nov_end hC
  iterate 4 refine gx ?_
  refine qo (qA rfl) rfl rfl size4 rfl rfl rfl (i := 1) rfl rfl (by simp [] <;> omega) (cs' := [Value.bool false]) (rfl) (H' := [⟨g2, 3, [int .i64 (endF (upF Ts q) ((upF Ts q).length))], 1⟩, ⟨g1, 4, [Value.bool false], 1⟩]) rfl ?_
  iterate 3 refine gx ?_
  refine TE.markR hM hW (by intro e he; simp only [List.mem_cons, List.not_mem_nil, or_false, List.cons_append, List.nil_append, List.append_nil] at he; rcases he with rfl | rfl <;> (first | assumption | (dsimp only; omega))) (by intro e he; simp only [List.mem_cons, List.not_mem_nil, or_false, List.cons_append, List.nil_append, List.append_nil] at he; rcases he with rfl | rfl <;> (first | exact .inr (by simp) | exact .inl (by assumption) | exact .inl (by dsimp only; omega))) ?_ (.inl rfl)
  exact TE.retC1 rfl agg4 rfl (qR (i := 1) (ent := ⟨g1, 4, [Value.bool false], 1⟩) (off := 0) rfl rfl (by exact rfl)) (fun w hs => ⟨dec_f hno, ((hs.drop (by assumption)).drop (by assumption))⟩) (.inl rfl)
 ·iterate 2 refine gx ?_
  refine TE.markR hM hW (by intro e he; simp only [List.mem_cons, List.not_mem_nil, or_false, List.cons_append, List.nil_append, List.append_nil] at he; rcases he with rfl | rfl <;> (first | assumption | (dsimp only; omega))) (by intro e he; simp only [List.mem_cons, List.not_mem_nil, or_false, List.cons_append, List.nil_append, List.append_nil] at he; rcases he with rfl | rfl <;> (first | exact .inr (by simp) | exact .inl (by assumption) | exact .inl (by dsimp only; omega))) ?_ (.inl rfl)
  exact TE.retC1 rfl agg4 rfl (qR (i := 1) (ent := ⟨g1, 4, [Value.bool true], 1⟩) (off := 0) rfl rfl (by exact rfl)) (fun w hs => ⟨dec_t hC, ((hs.drop (by assumption)).drop (by assumption))⟩) (.inl rfl)
 ·exact hC.elim
theorem gap_c (p1 p2 gt m : Nat) (Ts : List TV) (q : Int) (hq : -9223372036854775808 ≤ q ∧ q ≤ 9223372036854775807) (hm : m ≤ 1000000000) (hnum : ∀ t ∈ Ts, (-9223372036854775808 ≤ t.o ∧ t.o ≤ 9223372036854775807) ∧ (-9223372036854775808 ≤ t.l ∧ t.l ≤ 9223372036854775807) ∧ t.x ≤ 9223372036854775807) (n : Int) (hn0 : 0 ≤ n ∧ n ≤ 4611686018427387903) (hpos : posF (upF Ts q)) (hend : ∀ p ∈ upF Ts q, p.1 + p.2 ≤ n) (w : World) (hc : CapT w p1 p2 gt m Ts q) : Calls Tryd.prog 52 #[.func (.func 67) #[] #[.pointer (some ⟨p1, 0, none⟩), .pointer (some ⟨p2, 0, none⟩)]] w fun e w' => ∃ z : Int, e = .returned (.int .i64 z) ∧ gapR (upF Ts q) z ∧ St w [] w' := by
 have hc1 := hc.h1
 have hc2 := hc.h2
 have hc3 := hc.h3
 refine calls_fromM (args := [.func (.func 67) #[] #[.pointer (some ⟨p1, 0, none⟩), .pointer (some ⟨p2, 0, none⟩)]]) Tryd.func52 rfl Tryd.ntmps52 (by simp) ?_
 refine qD [0] ?_
 iterate 7 refine gx ?_
 refine qW (fun g1 hg1 => ?_)
 refine qo (qA rfl) rfl rfl size3 rfl rfl rfl (i := 0) rfl rfl (by simp [] <;> omega) (cs' := [int .i64 0]) (rfl) (H' := [⟨g1, 3, [int .i64 0], 1⟩]) rfl ?_
 iterate 9 refine gx ?_
 refine TC.range (V := fun i => .agg ([int .i64 ((eP (upF Ts q) i).1), int .i64 ((eP (upF Ts q) i).2)]).toArray) (N := (upF Ts q).length) (c := 0) (Cap := capK p1 p2 gt) rfl rfl rfl rfl enters67 (fun w hs => upTo_iter p1 p2 gt m Ts q hq hm hnum w (hc.at_ hs (fun b hb => (qC (by show g1 ≠ b; omega) qE)))) (fun i => ∀ j r, j < i → (upF Ts q)[j]? = some r → r.1 ≤ endF (upF Ts q) j) (fun i => [⟨g1, 3, [int .i64 (endF (upF Ts q) i)], 1⟩]) [] (fun i y => [(3, .pointer (some ⟨g1, 0, none⟩)), (4, .pointer (some ⟨y, 0, none⟩))]) (fun i y => [⟨y, 64, [int .i64 ((eP (upF Ts q) i).1), int .i64 ((eP (upF Ts q) i).2)], 2⟩]) (fun i => False) (fun i => [⟨g1, 3, [int .i64 (endF (upF Ts q) i)], 1⟩]) 0 (fun i => gapR (upF Ts q) (endF (upF Ts q) (i - 1))) (fun i => [⟨g1, 3, [int .i64 (endF (upF Ts q) (i - 1))], 1⟩]) (fun j r h => absurd h (Nat.not_lt_zero j)) (fun w h => h) (fun _ => rfl) (fun _ => rfl) (fun _ => rfl) (fun w hs k hk => ⟨Nat.lt_of_lt_of_le (hc.lt hk) hs.size, (have hb := hc.lt hk; (qC (by show g1 ≠ k; omega) qE))⟩) (fun i y e he => by rw [List.mem_singleton.1 he]; exact Nat.le_refl _) (fun l i v hiN hC hs0 => ?_) (fun l i y v hiN hC hy hyv hs0 => ?_) (fun D W hC hW hM => ?_) (fun D W i hiN hC hW hM => ?_) (fun D W i hiN hC hW hM => ?_)
 ·refine TC.sub (qI (i := 3) rfl (qI (i := 6) rfl (qO))) ?_
  refine gx ?_
  refine qW (fun g2 hg2 => ?_)
  iterate 2 refine gx ?_
  exact TE.ax g2 hg2 (fun w hs => Nat.le_of_lt (hs.has _ List.mem_cons_self).lt) (qI (i := 3) rfl (qI (i := 4) rfl (qO))) (fun w h => h)
 ·have hqq := eP_at hiN
  have hqp := hpos _ (List.mem_of_getElem? hqq)
  have hqn := hend _ (List.mem_of_getElem? hqq)
  have heb := endF_bd hpos hend hn0.1 i
  iterate 10 refine gx ?_
  refine qQ rfl (fun hq0 => ?_) (fun hq0 => ?_)
  ·iterate 2 refine gx ?_
   refine TE.blockY rfl ?_
   exact TE.roundB ⟨i, Nat.le_of_lt hiN, rfl, hC, .inr ⟨_, hqq, hq0⟩⟩ [⟨y, 64, [int .i64 ((eP (upF Ts q) i).1), int .i64 ((eP (upF Ts q) i).2)], 2⟩] (by intro e he; simp only [List.mem_cons, List.not_mem_nil, or_false] at he; subst he; first | exact Nat.le_refl _ | (dsimp only; omega)) (fun w h => h)
  ·iterate 4 refine gx ?_
   refine qM (qA rfl) rfl enters62 rfl rfl (v := .int .i64 (((eP (upF Ts q) i).1) + ((eP (upF Ts q) i).2))) (fun w hs => end_c ((eP (upF Ts q) i).1) ((eP (upF Ts q) i).2) (by omega) w) ?_
   refine qo (qA rfl) rfl rfl size3 rfl rfl rfl (i := 1) rfl rfl (by simp [] <;> omega) (cs' := [int .i64 (((eP (upF Ts q) i).1) + ((eP (upF Ts q) i).2))]) (rfl) (H' := [⟨y, 64, [int .i64 ((eP (upF Ts q) i).1), int .i64 ((eP (upF Ts q) i).2)], 2⟩, ⟨g1, 3, [int .i64 (((eP (upF Ts q) i).1) + ((eP (upF Ts q) i).2))], 1⟩]) rfl ?_
   iterate 2 refine gx ?_
   exact TE.roundN (ngap_succ hC hqq hq0) [⟨y, 64, [int .i64 ((eP (upF Ts q) i).1), int .i64 ((eP (upF Ts q) i).2)], 2⟩] (by intro e he; simp only [List.mem_cons, List.not_mem_nil, or_false] at he; subst he; first | exact Nat.le_refl _ | (dsimp only; omega)) (fun w h => by rw [endF_succ hqq]; exact h)
 ·have hG : gapR (upF Ts q) (endF (upF Ts q) (upF Ts q).length) := ⟨_, Nat.le_refl _, rfl, hC, .inl rfl⟩
  iterate 9 refine gx ?_
  refine TE.markR hM hW (by intro e he; simp only [List.mem_cons, List.not_mem_nil, or_false, List.cons_append, List.nil_append, List.append_nil] at he; subst he; first | assumption | (dsimp only; omega)) (by intro e he; simp only [List.mem_cons, List.not_mem_nil, or_false, List.cons_append, List.nil_append, List.append_nil] at he; subst he; first | exact .inr (by simp) | exact .inl (by assumption) | exact .inl (by dsimp only; omega)) ?_ (.inl rfl)
  exact qK rfl rfl (fun w hs => ⟨_, rfl, hG, (hs.drop (by assumption))⟩)
 ·exact hC.elim
 ·have hG : gapR (upF Ts q) (endF (upF Ts q) i) := hC
  iterate 9 refine gx ?_
  refine TE.markR hM hW (by intro e he; simp only [List.mem_cons, List.not_mem_nil, or_false, List.cons_append, List.nil_append, List.append_nil] at he; subst he; first | assumption | (dsimp only; omega)) (by intro e he; simp only [List.mem_cons, List.not_mem_nil, or_false, List.cons_append, List.nil_append, List.append_nil] at he; subst he; first | exact .inr (by simp) | exact .inl (by assumption) | exact .inl (by dsimp only; omega)) ?_ (.inl rfl)
  exact qK rfl rfl (fun w hs => ⟨_, rfl, hG, (hs.drop (by assumption))⟩)
end Go.Proofs.YtegddcklbmonfaaDoor
/-
 DERIVED: THE SHELF's CONTRACTS AT THIS DUMP, IN PLAIN WORDS (tools/lay-plain.mjs out of 'YtegddcklbmonfaaDoorLayS.lean', which tools/lay-shelf.mjs wrote): THE SAME DECLARATIONS UNDER THE SAME NAMES: 'import', 'namespace', 'open', 'def', 'theorem' AND NOTHING ELSE: no command of the shelf's: FOR A HAND-IN. Each laying: the table of numbers ('.._ren') and one theorem, a field a fact of the dump's own or the kernel's comparison; each contract: ONE APPLICATION.
-/
namespace Go.Proofs
open Go.Shelf
def Tryd.sortT_ren : Go.Shelf.Ren := ⟨fun | 6 => 64 | 15 => 70 | 14 => 69 | 28 => 82 | 29 => 83 | 20 => 74 | 21 => 75 | 22 => 76 | 23 => 77 | 24 => 78 | 25 => 79 | 26 => 80 | 27 => 81 | 46 => 85 | 47 => 86 | 48 => 87 | 49 => 88 | 50 => 89 | 57 => 90 | n => n, fun | 22 => 82 | 24 => 100 | 25 => 115 | 3 => 3 | 39 => 76 | 0 => 0 | 53 => 91 | 55 => 45 | 4 => 4 | 46 => 124 | 45 => 123 | 50 => 58 | 5 => 5 | 9 => 9 | 66 => 131 | 70 => 135 | 76 => 137 | 77 => 138 | n => n, fun | n => n⟩
theorem Tryd.sortT : Go.Proofs.SlLaysF0.n6 Tryd.prog Tryd.sortT_ren := {
 mixed := by kernel_rfl
 f6 := ⟨Tryd.f64.name, by decide, Tryd.func64.trans (congrArg some (by kernel_rfl))⟩
 f14 := ⟨Tryd.f69.name, by decide, Tryd.func69.trans (congrArg some (by kernel_rfl))⟩
 f15 := Tryd.func70.trans (congrArg some (by kernel_rfl))
 f20 := ⟨Tryd.f74.name, by decide, Tryd.func74.trans (congrArg some (by kernel_rfl))⟩
 f21 := ⟨Tryd.f75.name, by decide, Tryd.func75.trans (congrArg some (by kernel_rfl))⟩
 f22 := ⟨Tryd.f76.name, by decide, Tryd.func76.trans (congrArg some (by kernel_rfl))⟩
 f23 := ⟨Tryd.f77.name, by decide, Tryd.func77.trans (congrArg some (by kernel_rfl))⟩
 f24 := ⟨Tryd.f78.name, by decide, Tryd.func78.trans (congrArg some (by kernel_rfl))⟩
 f25 := ⟨Tryd.f79.name, by decide, Tryd.func79.trans (congrArg some (by kernel_rfl))⟩
 f26 := ⟨Tryd.f80.name, by decide, Tryd.func80.trans (congrArg some (by kernel_rfl))⟩
 f27 := ⟨Tryd.f81.name, by decide, Tryd.func81.trans (congrArg some (by kernel_rfl))⟩
 f28 := Tryd.func82.trans (congrArg some (by kernel_rfl))
 f29 := Tryd.func83.trans (congrArg some (by kernel_rfl))
 f46 := ⟨Tryd.f85.name, by decide, Tryd.func85.trans (congrArg some (by kernel_rfl))⟩
 f47 := Tryd.func86.trans (congrArg some (by kernel_rfl))
 f48 := Tryd.func87.trans (congrArg some (by kernel_rfl))
 f49 := ⟨Tryd.f88.name, by decide, Tryd.func88.trans (congrArg some (by kernel_rfl))⟩
 f50 := ⟨Tryd.f89.name, by decide, Tryd.func89.trans (congrArg some (by kernel_rfl))⟩
 f57 := ⟨Tryd.f90.name, by decide, Tryd.func90.trans (congrArg some (by kernel_rfl))⟩
 t0 := Tryd.underlying0
 a0 := Tryd.isAgg0
 z0 := Tryd.sizeOf0
 v0 := Tryd.zeroValue0
 t3 := Tryd.underlying3
 a3 := Tryd.isAgg3
 z3 := Tryd.sizeOf3
 v3 := Tryd.zeroValue3
 t4 := Tryd.underlying4
 a4 := Tryd.isAgg4
 z4 := Tryd.sizeOf4
 v4 := Tryd.zeroValue4
 t5 := Tryd.underlying5
 a5 := Tryd.isAgg5
 z5 := Tryd.sizeOf5
 v5 := Tryd.zeroValue5
 t9 := Tryd.underlying9
 a9 := Tryd.isAgg9
 z9 := Tryd.sizeOf9
 v9 := Tryd.zeroValue9
 t22 := Tryd.underlying82
 a22 := Tryd.isAgg82
 z22 := Tryd.sizeOf82
 v22 := Tryd.zeroValue82
 t25 := Tryd.underlying115
 a25 := Tryd.isAgg115
 z25 := Tryd.sizeOf115
 v25 := Tryd.zeroValue115
 t39 := Tryd.underlying76
 a39 := Tryd.isAgg76
 z39 := Tryd.sizeOf76
 v39 := Tryd.zeroValue76
 t45 := Tryd.underlying123
 a45 := Tryd.isAgg123
 z45 := Tryd.sizeOf123
 v45 := Tryd.zeroValue123
 t46 := Tryd.underlying124
 a46 := Tryd.isAgg124
 z46 := Tryd.sizeOf124
 v46 := Tryd.zeroValue124
 t50 := Tryd.underlying58
 a50 := Tryd.isAgg58
 z50 := Tryd.sizeOf58
 v50 := Tryd.zeroValue58
 t53 := Tryd.underlying91
 a53 := Tryd.isAgg91
 z53 := Tryd.sizeOf91
 v53 := Tryd.zeroValue91
 t55 := Tryd.underlying45
 a55 := Tryd.isAgg45
 z55 := Tryd.sizeOf45
 v55 := Tryd.zeroValue45
 t66 := Tryd.underlying131
 a66 := Tryd.isAgg131
 z66 := Tryd.sizeOf131
 v66 := Tryd.zeroValue131
 t70 := Tryd.underlying135
 a70 := Tryd.isAgg135
 z70 := Tryd.sizeOf135
 v70 := Tryd.zeroValue135
 t76 := Tryd.underlying137
 a76 := Tryd.isAgg137
 z76 := Tryd.sizeOf137
 v76 := Tryd.zeroValue137
 t77 := Tryd.underlying138
 a77 := Tryd.isAgg138
 z77 := Tryd.sizeOf138
 v77 := Tryd.zeroValue138 }
def Tryd.cmpI_ren : Go.Shelf.Ren := ⟨fun | 5 => 66 | 7 => 71 | n => n, fun | 22 => 3 | 3 => 3 | 4 => 4 | n => n, fun | n => n⟩
theorem Tryd.cmpI : Go.Proofs.SlLaysC2.n5 Tryd.prog Tryd.cmpI_ren := {
 mixed := by kernel_rfl
 f5 := ⟨Tryd.f66.name, by decide, Tryd.func66.trans (congrArg some (by kernel_rfl))⟩
 f7 := ⟨Tryd.f71.name, by decide, Tryd.func71.trans (congrArg some (by kernel_rfl))⟩
 t3 := Tryd.underlying3
 a3 := Tryd.isAgg3
 z3 := Tryd.sizeOf3
 v3 := Tryd.zeroValue3
 t4 := Tryd.underlying4
 a4 := Tryd.isAgg4
 z4 := Tryd.sizeOf4
 v4 := Tryd.zeroValue4
 t22 := Tryd.underlying3
 a22 := Tryd.isAgg3
 z22 := Tryd.sizeOf3
 v22 := Tryd.zeroValue3 }
end Go.Proofs
/-
 slices.SortFunc at targets, over blocks that are known.
-/
namespace Go.Proofs.YtegddcklbmonfaaDoor
set_option linter.unusedVariables false
set_option linter.unusedSimpArgs false
set_option maxRecDepth 100000
set_option maxHeartbeats 2000000
open Go.Value (int slice)
open Go Go.RowKit Go.Shelf Go.Lib Go.Sort
theorem flatK_flatT (Ts : List TV) : (flatK cellsT 3 Ts.toArray).toList = flatT Ts := by
 apply List.ext_getElem?
 intro t
 by_cases ht : t < Ts.length * 3
 ·have hi : t / 3 < Ts.length := by omega
  have hr : t % 3 < 3 := Nat.mod_lt _ (by omega)
  have h1 : (flatK cellsT 3 Ts.toArray).toList[t]? = some ((cellsT Ts.toArray[t / 3]!)[t % 3]!) := by
   have := get_flatK cellsT 3 Ts.toArray t (by simpa using ht)
   rw [Array.getElem?_toList, ← this]
   rw [Array.getElem?_eq_getElem (by simpa using ht), getElem!_pos _ _ (by simpa using ht)]
  have h2 : Ts.toArray[t / 3]! = Ts[t / 3] := by
   rw [getElem!_pos _ _ (by simpa using hi)]; simp
  rw [h1, h2]
  have hx : Ts[t / 3]? = some Ts[t / 3] := List.getElem?_eq_getElem hi
  have hu : (cellsT Ts[t / 3])[t % 3]? = some ((cellsT Ts[t / 3])[t % 3]'(by rw [cellsT_len]; exact hr)) := List.getElem?_eq_getElem _
  have h3 := flatT_get hx hu
  rw [show 3 * (t / 3) + t % 3 = t by omega] at h3
  rw [h3, getElem!_pos _ _ (by rw [cellsT_len]; exact hr)]
 ·rw [List.getElem?_eq_none (by simp; omega), List.getElem?_eq_none (by rw [flatT_len]; omega)]
theorem holds_entT {w : World} {g t tot : Nat} {Ts : List TV} (h : Ent.lies ⟨g, t, flatT Ts, tot⟩ w) : HoldsK cellsT 3 w g 0 Ts.toArray := fun j hj => by
 obtain ⟨cur, h1, h2, h3⟩ := h
 have hj' : j < (flatK cellsT 3 Ts.toArray).size := hj
 have hfl : (flatT Ts)[j]? = some (flatK cellsT 3 Ts.toArray)[j]! := by
  rw [← flatK_flatT, Array.getElem?_toList, Array.getElem?_eq_getElem hj', getElem!_pos (flatK cellsT 3 Ts.toArray) j hj']
 refine ⟨?_, ?_⟩
 ·have := h3 j _ hfl
  simp only [id]
  rw [Nat.zero_add]
  simp [World.cell?, h1, this]
 ·simp only [World.frozen?, h1]
  simp
theorem st_sortedT {w0 w : World} {g t tot n : Nat} {Ts Es : List TV} {H : List Ent} {os : Array Obj} (hs : St w0 (⟨g, t, flatT Ts, tot⟩ :: H) w) (hl : Es.length = Ts.length) : St w0 (⟨g, t, flatT Es, tot⟩ :: H) (sortWorldK cellsT 3 w g 0 n Es.toArray os) := by
 obtain ⟨cur, h1, h2, h3⟩ := hs.has _ List.mem_cons_self
 have hg : g < w.heap.size := (Array.getElem?_eq_some_iff.1 h1).1
 let W := sortWorldK cellsT 3 w g 0 n Es.toArray os
 have hheap : W.heap = (w.heap.modify g (onCells (putCells id 0 (flatK cellsT 3 Es.toArray)))) ++ os := rfl
 have hother : ∀ b, b < w.heap.size → b ≠ g → W.heap[b]? = w.heap[b]? := fun b hb hne => by
  rw [hheap, Array.getElem?_append_left (by simpa using hb), Array.getElem?_modify, if_neg (fun h => hne h.symm)]
 have hhere : W.heap[g]? = some (.cells (putCells id 0 (flatK cellsT 3 Es.toArray) cur) t (0, 0)) := by
  rw [hheap, Array.getElem?_append_left (by simpa using hg), Array.getElem?_modify, if_pos rfl, h1]; rfl
 have hap := hs.apart
 refine ⟨hs.os, hs.tape, hs.output, Nat.le_trans hs.size (by show w.heap.size ≤ W.heap.size; rw [hheap]; simp), ?_, ?_, ?_⟩
 ·intro e he
  rcases List.mem_cons.1 he with rfl | he
  ·refine ⟨_, hhere, by simpa [putCells] using h2, fun j u hu => ?_⟩
   have hj := (List.getElem?_eq_some_iff.1 hu).1
   have hjs : j < (flatK cellsT 3 Es.toArray).size := by rw [size_flatK]; rw [flatT_len] at hj; simpa using hj
   have hjc : j < cur.size := by
    have hjC : j < (flatT Ts).length := by rw [flatT_len, ← hl, ← flatT_len]; exact hj
    have := h3 j _ (List.getElem?_eq_getElem hjC)
    exact (Array.getElem?_eq_some_iff.1 this).1
   rw [← flatK_flatT, Array.getElem?_toList, Array.getElem?_eq_getElem hjs] at hu
   cases hu
   simp only [putCells]
   rw [Array.getElem?_eq_getElem (by simpa using hjc)]
   simp only [Array.getElem_mapIdx]
   rw [if_pos ⟨Nat.zero_le _, by rw [Nat.zero_add]; exact hjs⟩, Nat.sub_zero, getElem!_pos (flatK cellsT 3 Es.toArray) j hjs]; rfl
  ·have hne : e.g ≠ g := fun h => (List.pairwise_cons.1 hap).1 e he h.symm
   exact (hs.has e (List.mem_cons_of_mem _ he)).of_block (hother _ (hs.has e (List.mem_cons_of_mem _ he)).lt hne)
 ·intro b hb hne
  have hbg : b ≠ g := fun h => hne _ List.mem_cons_self h.symm
  rw [hother b (Nat.lt_of_lt_of_le hb hs.size) hbg]
  exact hs.old b hb (fun e he => by
   rcases List.mem_cons.1 he with rfl | he
   ·exact fun h => hbg h.symm
   ·exact hne e (List.mem_cons_of_mem _ he))
 ·exact .cons (fun e he => (List.pairwise_cons.1 hap).1 e he) (List.pairwise_cons.1 hap).2
theorem ltOf_o (x y : TV) : ltOf (fun x y : TV => Lib.compareInt x.o y.o) x y = decide (x.o < y.o) := by
 unfold ltOf Lib.compareInt
 by_cases h1 : x.o < y.o
 ·simp [h1]
 ·by_cases h2 : y.o < x.o <;> simp [h1, h2]
theorem sorted_listT {Es : List TV} (h : SortedIn (ltOf fun x y : TV => Lib.compareInt x.o y.o) 0 Es.length Es.toArray) : Es.Pairwise leT := by
 rw [List.pairwise_iff_getElem]
 intro i j hi hj hij
 have h1 := h i j (Nat.zero_le _) hij hj
 rw [getElem!_pos Es.toArray j (by simpa using hj), getElem!_pos Es.toArray i (by simpa using hi)] at h1
 simp only [List.getElem_toArray] at h1
 rw [ltOf_o] at h1
 unfold leT
 have h2 := of_decide_eq_false h1
 omega
theorem swoO : SWO (ltOf fun x y : TV => Lib.compareInt x.o y.o) := by
 have e := ltOf_o
 exact ⟨fun x => by rw [e]; simp, fun x y z h1 h2 => by rw [e] at *; simp at *; omega, fun x y z h1 h2 => by rw [e] at *; simp at *; omega⟩
theorem perm_ofT {Ts : List TV} {d : Array TV} (h : PermIn 0 Ts.toArray.size Ts.toArray d) : d.toList.Perm Ts := by
 obtain ⟨h1, _, h3⟩ := h
 have e1 : d.extract 0 Ts.toArray.size = d := by rw [← h1]; simp
 have e2 : Ts.toArray.extract 0 Ts.toArray.size = Ts.toArray := by simp
 rw [e1, e2] at h3
 simpa using h3
theorem sortT_c {w0 w : World} {g t tot cap fc : Nat} {Ts : List TV} {H : List Ent} (hs : St w0 (⟨g, t, flatT Ts, tot⟩ :: H) w) (hlen : Ts.length < 4611686018427387904)
  (eg : ∀ args w, (callFunc fc args).run Tryd.prog w = .ok (.enter fc args) w) (hc : ∀ (x y : TV) (W : World), Calls Tryd.prog fc #[.agg (cellsT x).toArray, .agg (cellsT y).toArray] W fun e w' => e = .returned (.int .i64 (Lib.compareInt x.o y.o)) ∧ ∃ q os', w' = grow (W.drewN q) os') :
  Calls Tryd.prog 64 #[.slice (some ⟨g, 0, none⟩) Ts.length cap, .func (.func fc) #[] #[]] w fun e w' => e = .returned (.tuple #[]) ∧ ∃ Es : List TV, Es.Perm Ts ∧ Es.Pairwise leT ∧ St w0 (⟨g, t, flatT Es, tot⟩ :: H) w' := by
 have hlt := (hs.has _ List.mem_cons_self).lt
 have hcon := AnyQ.slices_SortFunc Tryd.sortT 3 (fun w => congrFun agg100 w) (run_size size100) cellsT (fun _ => rfl) (fun x v hv => flatT_one' [x] v (by rw [flatT_one]; exact hv)) (fun x y : TV => Lib.compareInt x.o y.o) swoO fc #[] g 0 cap Ts.toArray w eg (fun _ _ _ _ x y => hc x y _) (holds_entT (hs.has _ List.mem_cons_self)) hlt (by simpa using hlen)
 refine hcon.mono ?_
 rintro e w' ⟨rfl, d, n, os, hp, hq, rfl⟩
 have hsz : d.size = Ts.length := by have := hp.1; simpa using this
 have hperm := perm_ofT hp
 refine ⟨rfl, d.toList, hperm, sorted_listT (by simpa [hsz] using hq), ?_⟩
 have := st_sortedT (n := n) (os := os) (Es := d.toList) hs (by simpa using hsz)
 simpa using this
/-
 The closure that compares targets.
-/
theorem closureT_c (x y : TV) (W : World) : Calls Tryd.prog 65 #[.agg (cellsT x).toArray, .agg (cellsT y).toArray] W fun e w' => e = .returned (.int .i64 (Lib.compareInt x.o y.o)) ∧ ∃ q os', w' = grow (W.drewN q) os' := by
 have hcon := fun W' => AnyG.cmp_Compare_int Tryd.cmpI x.o y.o W'
 change ∀ W', Calls Tryd.prog 66 _ _ _ at hcon
 generalize Lib.compareInt x.o y.o = r at hcon ⊢
 show Calls Tryd.prog 65 #[.agg #[.int .i64 x.o, .int .i64 x.l, .int .i64 x.x], .agg #[.int .i64 y.o, .int .i64 y.l, .int .i64 y.x]] W _
 go_enter Tryd.func65, Tryd.ntmps65
 go_wp2_with (go_at_call 66; refine (hcon _).mono ?_; rintro e w' ⟨rfl, rfl⟩)
 go_ret
 exact ⟨rfl, 0, _, by rw [alloc_eq_grow, alloc_eq_grow, grow_grow]; rfl⟩
/-
 A slice of structs is made.
-/
open Go Go.RowKit
variable {P : Program} {ops : Array Oper} {Q : Exit → Act → World → Prop} {n : Sz} {w0 : World} {L L' : List (Nat × Value)} {H : List Ent}
variable {o : Oper} {rest : List Oper} {v u : Value} {x y z : Operand} {k m j : Nat} {t t' e : TypeId} {kd kd' : IntKind} {p q r : Int}
theorem rep_get {zs : List Value} {s : Nat} (hs : zs.length = s) : ∀ (c i : Nat), i < c * s → (List.replicate c zs).flatten[i]? = zs[i % s]?
 | 0, i, h => by omega
 | c + 1, i, h => by
  have hs0 : 0 < s := by
   rcases Nat.eq_zero_or_pos s with h0 | h0
   ·subst h0; simp at h
   ·exact h0
  rw [List.replicate_succ, List.flatten_cons]
  by_cases hi : i < s
  ·rw [List.getElem?_append_left (by omega), Nat.mod_eq_of_lt hi]
  ·rw [List.getElem?_append_right (by omega), hs, rep_get hs c (i - s) (by rw [Nat.succ_mul] at h; omega), ← Nat.mod_eq_sub_mod (by omega)]
theorem rep_len {zs : List Value} {s : Nat} (hs : zs.length = s) (c : Nat) : (List.replicate c zs).flatten.length = c * s := by
 induction c with
 | zero => simp
 | succ c ih => rw [List.replicate_succ, List.flatten_cons, List.length_append, ih, hs, Nat.succ_mul]; omega
theorem madeCellsS {zs : List Value} {s : Nat} (hs : zs.length = s) (h0 : 0 < s) (c : Nat) : ((Array.range (c * s)).map (fun i => zs.toArray[i % s]!)).toList = (List.replicate c zs).flatten := by
 apply List.ext_getElem?
 intro i
 by_cases h : i < c * s
 ·rw [rep_get hs c i h]
  have hm : i % s < zs.length := by rw [hs]; exact Nat.mod_lt _ h0
  simp only [Array.toList_map, List.getElem?_map]
  rw [Array.toList_range, List.getElem?_range h]
  rw [List.getElem?_eq_getElem hm]
  simp [hm]
 ·rw [List.getElem?_eq_none (by simp; omega), List.getElem?_eq_none (by rw [rep_len hs]; omega)]
theorem TL.makeSliceS {zv : Value} {zs : List Value} {ln cp bytes s : Nat} (hg : Wants n ops L o) (hi : inside n o.dst = true) (ho : o.op = .makeSlice t x y) (h1 : P.underlying t = some (.slice e))
  (hz : (P.info? e).map (fun i => (i.zero, i.size, i.bytes)) = some (some zv, s, bytes)) (hzc : zv.cells = zs.toArray) (hzl : zs.length = s) (hs0 : 0 < s)
  (hx : ev L x = some (.int kd p)) (hy : ev L y = some (.int kd' q)) (hp : p = (ln : Int)) (hq : q = (cp : Int)) (hle : ln ≤ cp) (hcp : cp ≤ 9223372036854775807) (hb : cp * bytes ≤ 281474976710656)
  {cs : List Value} {tot : Nat} (hcs : (List.replicate cp zs).flatten = cs) (htot : cp * s = tot)
  (hr : ∀ g, w0.heap.size ≤ g → TL P ops Q n w0 rest (put L o.dst (.slice (some ⟨g, 0, none⟩) ln cp)) (⟨g, e, cs, tot⟩ :: H)) : TL P ops Q n w0 (o :: rest) L H :=
 fun a w hf hs => wpL_wants hg.nd (hg a hf) fun K hK => by
  obtain ⟨i, hi1, hi2⟩ := Option.map_eq_some_iff.1 hz
  simp only [Prod.mk.injEq] at hi2
  obtain ⟨hz1, hz2, hz3⟩ := hi2
  subst hp; subst hq; subst hcs; subst htot
  have hrun : ∃ arr : Array Value, arr.toList = (List.replicate cp zs).flatten ∧ (execOp a.eval o).run P w = .ok (.value (.slice (some ⟨w.heap.size, 0, none⟩) ln cp)) (w.alloc (.cells arr e)) := by
   have hlw : IntKind.i64.wrap (ln : Int) = ln := IntWalk.i64_in _ (by omega)
   have hcw : IntKind.i64.wrap (cp : Int) = cp := IntWalk.i64_in _ (by omega)
   have hbytes : ¬ ((i.bytes : Int) * (cp : Int) > 2 ^ 48) := by
    rw [hz3]
    have : (bytes : Int) * (cp : Int) = ((cp * bytes : Nat) : Int) := by rw [Nat.mul_comm]; simp
    rw [this]; omega
   have hroom : ∀ (b : Nat) (ww : World), (askRoom b).run P ww = .ok () ww := by
    intro b ww
    unfold askRoom
    split <;> rfl
   have hsz : zv.cells.size = s := by rw [hzc]; simpa using hzl
   by_cases h0 : cp = 0
   ·subst h0
    obtain rfl : ln = 0 := by omega
    refine ⟨#[], by simp, ?_⟩
    simp only [execOp, ho, hf.eval hx, hf.eval hy]
    refine run_value ?_
    have hw0 : IntKind.i64.wrap 0 = 0 := by decide
    have hr0 : Array.range 0 = #[] := rfl
    simp [hr0, Instr.makeSlice, Sem.run_bind, run_under h1, asInt, asIntOf, run_info hi1, hw0, hroom, sizeOf, hz2, newRow, newObj, Sem.run]
   ·refine ⟨(Array.range (cp * s)).map (fun i => zs.toArray[i % s]!), madeCellsS hzl hs0 cp, ?_⟩
    simp only [execOp, ho, hf.eval hx, hf.eval hy]
    refine run_value ?_
    have hns : ¬ (cp * s = 0) := fun hc => by rcases Nat.mul_eq_zero.1 hc with h | h <;> omega
    simp [Instr.makeSlice, Sem.run_bind, run_under h1, asInt, asIntOf, run_info hi1, hlw, hcw, hbytes, hroom, sizeOf, hz2, zeroValue, hz1, hzc, hzl, newRow, newObj, Sem.run, hns]
    have e1 : ¬ (cp : Int) < 0 := by omega
    have e2 : ¬ (ln : Int) < 0 := by omega
    have e3 : ¬ (cp : Int) < (ln : Int) := by omega
    have e4 : ¬ ((2 : Int) ^ 48 < (i.bytes : Int) * (cp : Int)) := hbytes
    have e5 : ¬ s = 0 := by omega
    simp [e2, e3, h0, e5, hzc, hzl]
    simp at e4
    try omega
  obtain ⟨arr, ha, hrun⟩ := hrun
  unfold Oper.wp; rw [hrun]
  have hst := hs.alloc e _ arr ha
  rw [rep_len hzl] at hst
  exact hK _ _ (hr _ hs.size _ _ (hf.put o.dst _ hi) hst)
theorem perm_midE {A B : List Ent} {g : Ent} : (A ++ g :: B).Perm ((A ++ B) ++ [g]) := List.perm_middle.trans (List.perm_append_singleton g (A ++ B)).symm
section
variable {HB X D : List Ent} {ks : List Nat} {r' : Value → List Ent → Prop} {rs : List (Value → List Ent → Prop)}
theorem TR.storeN {i g off s : Nat} {ent : Ent} {vs : List Value} (hg : Wants n ops L o) (hd : o.dst = none) (ho : o.op = .store t x y) (hsz : (P.info? t).map (·.size) = some s)
  (hx : ev L x = some (.pointer (some ⟨g, off, none⟩))) (hy : ev L y = some (.agg vs.toArray)) (hl : vs.length = s) (h1 : ∀ u ∈ vs, u.oneCell' = true) (hi : D[i]? = some ent) (he : ent.g = g) (hoff : off + vs.length ≤ ent.cs.length)
  {cs' : List Value} (hcs : ent.cs.take off ++ vs ++ ent.cs.drop (off + vs.length) = cs') {D' : List Ent} (hH : D.set i ⟨ent.g, ent.t, cs', ent.tot⟩ = D') (hF : Fresh w0 D) (hr : TR P ops Q n w0 HB ks rs rest L X D') : TR P ops Q n w0 HB (4 :: ks) (r' :: rs) (o :: rest) L X D :=
 fun a hf => .inr (.inr ⟨rfl, hd, D', ⟨fun Z w hZ hs => by
  subst hcs
  subst hH
  have hlt : i < D.length := (List.getElem?_eq_some_iff.1 hi).1
  have hi2 : (HB ++ (Z ++ D))[HB.length + (Z.length + i)]? = some ent := by
   rw [List.getElem?_append_right (by omega), List.getElem?_append_right (by omega), ← hi]
   congr 1; omega
  obtain ⟨w', hrun, hs'⟩ := run_storeCells (P := P) (i := HB.length + (Z.length + i)) (g := g) (ent := ent) (off := off) vs 0 (HB ++ (Z ++ D)) ent w he hs hi2 h1 (by omega)
  refine ⟨w', ?_, ?_⟩
  ·simp only [execOp, ho, hf.eval hx, hf.eval hy]
   refine run_unit ?_
   simp only [Instr.storeAt, Instr.sureAddr, storeVar, Sem.run_bind, Sem.run_pure, Result.andThen_ok, run_size hsz]
   rw [if_neg (fun h => h (by simpa [Value.cells] using hl))]
   simpa [Value.cells] using hrun
  ·rw [Nat.add_zero] at hs'
   rwa [List.set_append_right _ _ (by omega), List.set_append_right _ _ (by omega), show HB.length + (Z.length + i) - HB.length - Z.length = i by omega] at hs', hg a hf, by subst hH; exact fresh_set hF hi rfl⟩, hr a hf⟩)
end
/-
 The code of layer 5: the closure of checkTargets, sort.Search, ascending.
-/
theorem enters46 : Enters Tryd.prog 46 := ⟨_, Tryd.func46, by kernel_rfl, by kernel_rfl⟩
theorem enters49 : Enters Tryd.prog 49 := ⟨_, Tryd.func49, by kernel_rfl, by kernel_rfl⟩
theorem enters50 : Enters Tryd.prog 50 := ⟨_, Tryd.func50, by kernel_rfl, by kernel_rfl⟩
theorem enters51 : Enters Tryd.prog 51 := ⟨_, Tryd.func51, by kernel_rfl, by kernel_rfl⟩
theorem enters64 : Enters Tryd.prog 64 := ⟨_, Tryd.func64, by kernel_rfl, by kernel_rfl⟩
theorem enters65 : Enters Tryd.prog 65 := ⟨_, Tryd.func65, by kernel_rfl, by kernel_rfl⟩
theorem mk100 : (Tryd.prog.info? 100).map (fun i => (i.zero, i.size, i.bytes)) = some (some (.agg #[.int .i64 0, .int .i64 0, .int .i64 0]), 3, 24) := by kernel_rfl
theorem over1_c (bt gt m i : Nat) (o n : Int) (Cs : List CV) (Ts : List TV) (hA : AscT o n Cs Ts) (hm9 : m ≤ 1000000000) (hm8 : Cs.length ≤ 1000000000) (hlT : Ts.length = m) (hi : i ≤ 1000000000) (w : World) (hbt : w.cell? ⟨bt, 0, none⟩ = some (.slice (some ⟨gt, 0, none⟩) m m)) (hr : RowsT w gt 0 Ts) (hbl : bt < w.heap.size) (hgl : gt < w.heap.size) : Calls Tryd.prog 49 #[.int .i64 (i : Int), .pointer (some ⟨bt, 0, none⟩)] w fun e w' => e = .returned (.bool (decide (ovF (upF Ts (i : Int))))) ∧ St w [] w' := by
 refine qN (args := [.int .i64 (i : Int), .pointer (some ⟨bt, 0, none⟩)]) Tryd.func49 rfl Tryd.ntmps49 (by simp) ?_
 refine qD [0, 1] ?_
 iterate 7 refine gx ?_
 refine qB (qA rfl) rfl (qJ rfl agg82 rfl (qd hbt hbl qE)) ?_
 refine gx ?_
 refine qg (ι := Nat × Nat) (V := fun y => .func (.func 67) #[] #[.pointer (some ⟨y.1, 0, none⟩), .pointer (some ⟨y.2, 0, none⟩)]) (R := fun y => w.heap.size ≤ y.1 ∧ w.heap.size ≤ y.2) (H' := fun y => [⟨y.1, 82, [slice (some ⟨gt, 0, none⟩) m m], 1⟩, ⟨y.2, 3, [int .i64 (i : Int)], 1⟩]) (qA rfl) rfl enters51 rfl rfl (fun w hs => (upTo_c gt m (i : Int) w).mono fun e w' ⟨y, he, hR, hw⟩ => ⟨y, he, ⟨Nat.le_trans hs.size hR.1, Nat.le_trans hs.size hR.2⟩, st_call hs hw (fun e he => by rcases List.mem_cons.1 he with rfl | he; exact hR.1; rw [List.mem_singleton.1 he]; exact hR.2)⟩) (fun y hR => ?_)
 obtain ⟨u1, v1⟩ := y
 obtain ⟨hu1, hv1⟩ := hR
 dsimp only at hu1 hv1 ⊢
 refine qM (qA rfl) rfl enters50 rfl rfl (v := .bool (decide (ovF (upF Ts (i : Int))))) (fun w hs => overlap_c u1 v1 gt m Ts (i : Int) (by omega) hm9 (hA.nums hm8) n hA.n0 (hA.pos _) (hA.ends _) w (capT_of (hs.has (⟨u1, 82, [slice (some ⟨gt, 0, none⟩) m m], 1⟩) (by simp)) (hs.has (⟨v1, 3, [int .i64 (i : Int)], 1⟩) (by simp)) (hr.of_block (hs.old gt hgl (qC (by show u1 ≠ gt; omega) (qC (by show v1 ≠ gt; omega) qE)))) hlT (Nat.lt_of_lt_of_le hgl hs.size))) ?_
 iterate 4 refine gx ?_
 exact qK rfl rfl (fun w hs => ⟨dec_iff (Iff.rfl), ((hs.drop (by assumption)).drop (by assumption))⟩)
theorem shr1 {h : Nat} {p : Int} (hh : (h : Int) = p / 2) (hp : 0 ≤ p) : shrI .u64 p 1 = (h : Int) := by
 unfold shrI
 rw [hh, Int.fdiv_eq_ediv_of_nonneg _ (by decide)]
 rfl
theorem search_c (p : Nat → Prop) [DecidablePred p] (m bt : Nat) (hm : m ≤ 1000000000) (w : World) (hf : ∀ (i : Nat) (W : World), i < m → St w [] W → Calls Tryd.prog 49 #[.int .i64 (i : Int), .pointer (some ⟨bt, 0, none⟩)] W fun e w' => e = .returned (.bool (decide (p i))) ∧ St W [] w') (hmono : ∀ a b, a ≤ b → b < m → p a → p b) : Calls Tryd.prog 48 #[.int .i64 (m : Int), .func (.func 49) #[] #[.pointer (some ⟨bt, 0, none⟩)]] w fun e w' => e = .returned (.int .i64 ((lowI p m) : Int)) ∧ St w [] w' := by
 refine qN (args := [.int .i64 (m : Int), .func (.func 49) #[] #[.pointer (some ⟨bt, 0, none⟩)]]) Tryd.func48 rfl Tryd.ntmps48 (by simp) ?_
 refine qD [0, 1] ?_
 iterate 14 refine gx ?_
 refine qk (ι := Nat × Nat) (fun y => [(1, .func (.func 49) #[] #[.pointer (some ⟨bt, 0, none⟩)]), (5, .int .i64 (y.1 : Int)), (6, .int .i64 (y.2 : Int))]) (fun y => []) (fun y => y.2 - y.1) (fun y => (y.1 ≤ y.2 ∧ y.2 ≤ m) ∧ (∀ j, j < y.1 → ¬ p j) ∧ ∀ j, y.2 ≤ j → j < m → p j) (0, m) ⟨⟨Nat.zero_le _, Nat.le_refl _⟩, fun j h => absurd h (Nat.not_lt_zero j), fun j h1 h2 => by omega⟩ (qI (i := 1) rfl (qG (i := 5) rfl rfl (qG (i := 6) rfl rfl (qO)))) (fun w h => h) (fun y hC0 => ?_)
 obtain ⟨lo, hi⟩ := y
 obtain ⟨⟨hC0, hC1⟩, hC2, hC3⟩ := hC0
 dsimp only at hC0 hC1 hC2 hC3
 iterate 8 refine gx ?_
 refine qQ rfl (fun hq0 => ?_) (fun hq0 => ?_)
 ·iterate 7 refine gx ?_
  refine qB (qA rfl) rfl (qT rfl rfl rfl (r := ((lo : Int) + (hi : Int))) (w64 (by omega) (by omega))) ?_
  refine qB (qA rfl) rfl (qt rfl Tryd.underlying3 Tryd.underlying76 rfl (r := ((lo : Int) + (hi : Int))) (wu64 rfl (by omega))) ?_
  obtain ⟨h, hh⟩ : ∃ h : Nat, (h : Int) = ((lo : Int) + (hi : Int)) / 2 := ⟨(lo + hi) / 2, by omega⟩
  refine qB (qA rfl) rfl (Gets.shr rfl rfl rfl (by omega) (r := (h : Int)) (shr1 hh (by omega))) ?_
  refine qB (qA rfl) rfl (qt rfl Tryd.underlying76 Tryd.underlying3 rfl (r := (h : Int)) (w64 rfl (by omega))) ?_
  iterate 3 refine gx ?_
  refine qD [1, 5, 6, 7] ?_
  iterate 4 refine gx ?_
  refine TL.call0F (qA rfl) rfl enters49 rfl rfl rfl (u := .bool (decide (p h))) (fun w hs => hf h w (by omega) hs) ?_
  iterate 3 refine gx ?_
  refine qQ rfl (fun hq1 => ?_) (fun hq1 => ?_)
  ·iterate 2 refine gx ?_
   refine qB (qA rfl) rfl (qT rfl rfl rfl (r := ((h : Int) + 1)) (w64 (by omega) (by omega))) ?_
   iterate 3 refine gx ?_
   exact qj (h + 1, hi) (by show hi - (h + 1) < hi - lo; omega) ⟨⟨(by show h + 1 ≤ hi; omega), hC1⟩, fun j hj hp => hq1 (hmono j h (by omega) (by omega) hp), hC3⟩ (qI (i := 1) rfl (qG (i := 5) rfl (by show _ = _; omega) (qG (i := 6) rfl (by show _ = _; omega) (qO)))) (fun w h => h)
  ·iterate 5 refine gx ?_
   exact qj (lo, h) (by show h - lo < hi - lo; omega) ⟨⟨(by show lo ≤ h; omega), (by show h ≤ m; omega)⟩, hC2, fun j h1 h2 => hmono h j h1 h2 (Classical.byContradiction hq1)⟩ (qI (i := 1) rfl (qG (i := 5) rfl (by show _ = _; omega) (qG (i := 6) rfl (by show _ = _; omega) (qO)))) (fun w h => h)
 ·iterate 12 refine gx ?_
  exact qK rfl rfl (fun w hs => ⟨ret_i (by rw [lowI_is (k := lo) (by omega) hC2 (by by_cases hmm : lo = m; exact .inl hmm; exact .inr (hC3 lo (by omega) (by omega)))]), hs⟩)
theorem tgt_c (k t f l : Int) (A : Option Addr) (m c : Nat) (hk : k = 1 ∨ k = 2) (w : World) : Calls Tryd.prog 46 #[.agg ([int .i64 k, int .i64 t, int .i64 f, int .i64 l, slice A m c]).toArray] w fun e w' => e = .returned (.agg ([int .i64 t, int .i64 (lenV k l m)]).toArray) ∧ St w [] w' := by
 unfold lenV
 rcases hk with rfl | rfl
 ·rw [if_pos rfl]; exact target1 t f l A m c w
 ·rw [if_neg (by decide)]; exact target2 t f l A m c w
theorem asc_c (A : Option Addr) (m c : Nat) (Cs : List CV) (hk12 : ∀ (i : Nat) (x : CV), Cs[i]? = some x → x.k = 1 ∨ x.k = 2) (hmm : m ≤ 1000000000) (hN : NumsC Cs) (w : World) (hC : SrcC w A m Cs) : Calls Tryd.prog 47 #[.slice A m c] w fun e w' => ∃ y : Nat × List TV, e = .returned (.slice (some ⟨y.1, 0, none⟩) m m) ∧ (y.2.Perm (tvOf Cs) ∧ y.2.Pairwise leT) ∧ w.heap.size ≤ y.1 ∧ St w [⟨y.1, 100, flatT y.2, (m * 3)⟩] w' := by
 refine qN (args := [.slice A m c]) Tryd.func47 rfl Tryd.ntmps47 (by simp) ?_
 refine qD [0] ?_
 iterate 9 refine gx ?_
 refine TL.makeSliceS (qA rfl) rfl rfl Tryd.underlying82 mk100 (zs := [int .i64 0, int .i64 0, int .i64 0]) rfl rfl (by decide) rfl rfl (ln := m) (cp := m) (by omega) (by omega) (by omega) (by omega) (by omega) (cs := flatT (stT Cs m 0)) (tot := m * 3) (stT_rep Cs m) rfl (fun g1 hg1 => ?_)
 iterate 11 refine gx ?_
 refine qD [2, 3, 9, 10, 11] ?_
 refine gx ?_
 refine qk (ι := Nat) (fun i => [(3, .slice (some ⟨g1, 0, none⟩) m m), (9, .slice A m c), (10, .int .i64 (m : Int)), (11, .int .i64 (i : Int))]) (fun i => [⟨g1, 100, flatT (stT Cs m i), (m * 3)⟩]) (fun i => m - i) (fun i => i ≤ m) 0 (Nat.zero_le _) (qP (i := 3) rfl rfl (by first | omega | (dsimp only; omega) | rfl) (by first | omega | (dsimp only; omega) | rfl) (qP (i := 9) rfl rfl (by first | omega | (dsimp only; omega) | rfl) (by first | omega | (dsimp only; omega) | rfl) (qG (i := 10) rfl (by first | omega | rfl) (qG (i := 11) rfl (by first | omega | rfl) (qO))))) (fun w h => h) (fun i hC0 => ?_)
 iterate 6 refine gx ?_
 refine qQ rfl (fun hq0 => ?_) (fun hq0 => ?_)
 ·obtain ⟨b, off, hAe, hb, hrw⟩ := hC.some_ (i := i) (by omega)
  subst hAe
  obtain ⟨x, hx⟩ := hC.get (i := i) (by omega)
  have hnx := hN i x hx
  unfold NumC at hnx
  have hlbx := lenV_bd (k := x.k) (l := x.l) (m := x.m) (by omega) (by omega)
  iterate 7 refine gx ?_
  refine qB (qA rfl) rfl (qc rfl Tryd.underlying25 size38 rfl rfl (i := i) (by omega) (by omega) (off' := (off + 5 * i)) (by omega)) ?_
  refine qB (qA rfl) rfl (qa rfl agg38 size38 rfl rfl (Row.old (fun jj u h => hrw i x hx jj u h) hb (qC (by show g1 ≠ b; omega) qE))) ?_
  refine qW (fun g2 hg2 => ?_)
  iterate 4 refine gx ?_
  refine qD [3, 4, 5, 9, 10, 11] ?_
  iterate 4 refine gx ?_
  refine qM (qA rfl) rfl enters46 rfl rfl (v := .agg ([int .i64 x.t, int .i64 (lenV x.k x.l x.m)]).toArray) (fun w hs => tgt_c x.k x.t x.f x.l x.A x.m x.c (hk12 i x hx) w) ?_
  refine gx ?_
  refine qB (qA rfl) rfl (qf rfl (vs := [(0, Value.agg ([int .i64 x.t, int .i64 (lenV x.k x.l x.m)]).toArray), (1, int .i64 (i : Int))]) rfl (fun w => by first | rfl | kernel_rfl) (v := .agg ([int .i64 x.t, int .i64 (lenV x.k x.l x.m), int .i64 (i : Int)]).toArray)) ?_
  refine qB (qA rfl) rfl (qc rfl Tryd.underlying82 size100 rfl rfl (i := i) (by omega) (by omega) (off' := (3 * i)) (by omega)) ?_
  refine TL.storeN (qA rfl) rfl rfl size100 rfl (vs := [int .i64 x.t, int .i64 (lenV x.k x.l x.m), int .i64 (i : Int)]) rfl rfl (by simp [Value.oneCell']) (i := 1) (ent := ⟨g1, 100, flatT (stT Cs m i), (m * 3)⟩) rfl rfl (by show (3 * i) + 3 ≤ (flatT (stT Cs m i)).length; rw [flatT_len, stT_len hC.1 (by omega)]; omega) (cs' := flatT (stT Cs m (i + 1))) (stT_step hC.1 hx) (H' := [⟨g2, 38, [int .i64 x.k, int .i64 x.t, int .i64 x.f, int .i64 x.l, slice x.A x.m x.c], 5⟩, ⟨g1, 100, flatT (stT Cs m (i + 1)), (m * 3)⟩]) rfl ?_
  iterate 3 refine gx ?_
  refine qD [3, 9, 10, 11] ?_
  refine gx ?_
  refine qB (qA rfl) rfl (qT rfl rfl rfl (r := ((i : Int) + 1)) (w64 (by omega) (by omega))) ?_
  iterate 2 refine gx ?_
  exact qj (i + 1) (by omega) (by omega) (qP (i := 3) rfl rfl (by first | omega | (dsimp only; omega) | rfl) (by first | omega | (dsimp only; omega) | rfl) (qP (i := 9) rfl (by first | rfl | (congr 2; omega)) (by first | omega | (dsimp only; omega) | rfl) (by first | omega | (dsimp only; omega) | rfl) (qG (i := 10) rfl (by first | omega | rfl) (qG (i := 11) rfl (by first | omega | rfl) (qO))))) (fun w h => (h.erase (i := 0) rfl (by assumption)))
 ·have him : i = m := by omega
  iterate 8 refine gx ?_
  refine qg (ι := List TV) (V := fun Es => .tuple #[]) (R := fun Es => Es.Perm (tvOf Cs) ∧ Es.Pairwise leT) (H' := fun Es => [⟨g1, 100, flatT Es, (m * 3)⟩]) (qA rfl) rfl enters64 rfl rfl (fun w hs => by have hlen := stT_len (i := i) hC.1 (by omega); have h := sortT_c (Ts := stT Cs m i) (cap := m) hs (by omega) (fun args w => run_call enters65 args w) (fun x y W => closureT_c x y W); rw [hlen] at h; exact h.mono fun e w' ⟨he, Es, hp, hq, hw⟩ => ⟨Es, he, ⟨by rw [him, stT_all hC.1] at hp; exact hp, hq⟩, hw⟩) (fun Es hEs => ?_)
  iterate 9 refine gx ?_
  exact qK rfl rfl (fun w hs => ⟨(g1, Es), rfl, hEs, by assumption, hs⟩)
/-
 The code of layer 5: checkTargets.
-/
theorem agg25 : (isAgg 25).run Tryd.prog = fun w => .ok false w := isAgg_no Tryd.underlying25 rfl
theorem agg32 : (isAgg 32).run Tryd.prog = fun w => .ok true w := isAgg_yes Tryd.underlying32 rfl
theorem enters47 : Enters Tryd.prog 47 := ⟨_, Tryd.func47, by kernel_rfl, by kernel_rfl⟩
theorem enters48 : Enters Tryd.prog 48 := ⟨_, Tryd.func48, by kernel_rfl, by kernel_rfl⟩
theorem enters52 : Enters Tryd.prog 52 := ⟨_, Tryd.func52, by kernel_rfl, by kernel_rfl⟩
theorem size25 : (Tryd.prog.info? 25).map (·.size) = some 1 := by kernel_rfl
theorem size32 : (Tryd.prog.info? 32).map (·.size) = some 2 := by kernel_rfl
theorem size82 : (Tryd.prog.info? 82).map (·.size) = some 1 := by kernel_rfl
theorem zero32 : (Tryd.prog.info? 32).bind (·.zero) = some (.agg #[.int .i64 0, .int .i64 0]) := by kernel_rfl
theorem zero82 : (Tryd.prog.info? 82).bind (·.zero) = some (.slice none 0 0) := by kernel_rfl
instance : AgN Tryd.prog 25 := ⟨agg25⟩
instance : AgN Tryd.prog 82 := ⟨agg82⟩
instance : Fld Tryd.prog 27 1 1 := ⟨⟨_, _, _, Tryd.underlying27, rfl, size3, rfl⟩⟩
instance : Fld Tryd.prog 27 4 66 := ⟨⟨_, _, _, Tryd.underlying27, rfl, size25, rfl⟩⟩
instance : Siz Tryd.prog 32 2 := ⟨size32⟩
instance : Zer Tryd.prog 32 [int .i64 0, int .i64 0] := ⟨⟨_, zero32, rfl⟩⟩
instance : Zer Tryd.prog 82 [slice none 0 0] := ⟨⟨_, zero82, rfl⟩⟩
abbrev dV (o n : Int) (X Y : List Int) (s : Value) : List Value := [int .i64 o, int .i64 n] ++ (X.map (int .u8) ++ (Y.map (int .u8) ++ ([s])))
theorem ct_c (o n : Int) (H1 H2 : List Int) (hH1 : H1.length = 32) (hH2 : H2.length = 32) (A : Option Addr) (m c : Nat) (Cs : List CV) (hk12 : ∀ (i : Nat) (x : CV), Cs[i]? = some x → x.k = 1 ∨ x.k = 2) (hok : okLen o n) (h1 : ∀ (i : Nat) (x : CV), Cs[i]? = some x → singleV o n x = 0) (hmm : m ≤ 1000000000) (hN : NumsC Cs) (w : World) (hC : SrcC w A m Cs)  : Calls Tryd.prog 31 #[.agg (dV o n H1 H2 (slice A m c)).toArray] w fun e w' => e = .returned (.agg ([int .i64 ((faultI o n Cs).1), int .i64 ((faultI o n Cs).2)]).toArray) ∧ St w [] w' := by
 refine qN (args := [.agg (dV o n H1 H2 (slice A m c)).toArray]) Tryd.func31 rfl Tryd.ntmps31 (by simp) ?_
 refine qD [0] ?_
 iterate 2 refine gx ?_
 refine TL.box (qA rfl) rfl rfl rfl (cs := dV o n H1 H2 (slice A m c)) (by simp [Value.cells]) (tot := 67) (by simp [hH1, hH2]) (fun g1 hg1 => ?_)
 refine qW (fun g2 hg2 => ?_)
 iterate 6 refine gx ?_
 refine qg (ι := Nat × List TV) (V := fun y => .slice (some ⟨y.1, 0, none⟩) m m) (R := fun y => (y.2.Perm (tvOf Cs) ∧ y.2.Pairwise leT) ∧ w.heap.size ≤ y.1) (H' := fun y => [⟨g2, 32, [int .i64 0, int .i64 0], 2⟩, ⟨g1, 27, dV o n H1 H2 (slice A m c), 67⟩, ⟨y.1, 100, flatT y.2, (m * 3)⟩]) (qA rfl) rfl enters47 rfl rfl (fun w hs => (asc_c A m c Cs hk12 (by omega) hN w (hC.at_ hs (fun b hb => (qC (by show g2 ≠ b; omega) (qC (by show g1 ≠ b; omega) qE))))).mono fun e w' ⟨y, he, hR, hg, hw⟩ => ⟨y, he, ⟨hR, Nat.le_trans hs.size hg⟩, st_call hs hw (fun e he => by rw [List.mem_singleton.1 he]; exact hg)⟩) (fun y hR => ?_)
 obtain ⟨gt, Ts⟩ := y
 obtain ⟨⟨hTp, hTs⟩, hgt⟩ := hR
 dsimp only at hTp hTs hgt ⊢
 have hA : AscT o n Cs Ts := ⟨hTp, hTs, hok, h1⟩
 have hm8 : Cs.length ≤ 1000000000 := by have := hC.1; omega
 have hm9 : m ≤ 1000000000 := hmm
 have hlT : Ts.length = m := hA.len.trans hC.1
 have hls := lowI_spec (fun q : Nat => ovF (upF Ts (q : Int))) m
 have hlow := hls.2
 have hn0 := hA.n0
 refine qW (fun g3 hg3 => ?_)
 refine qo (qA rfl) rfl rfl size82 rfl rfl rfl (i := 0) rfl rfl (by simp [] <;> omega) (cs' := [slice (some ⟨gt, 0, none⟩) m m]) (rfl) (H' := [⟨g3, 82, [slice (some ⟨gt, 0, none⟩) m m], 1⟩, ⟨g2, 32, [int .i64 0, int .i64 0], 2⟩, ⟨g1, 27, dV o n H1 H2 (slice A m c), 67⟩, ⟨gt, 100, flatT Ts, (m * 3)⟩]) rfl ?_
 iterate 6 refine gx ?_
 refine qB (qA rfl) rfl (Gets.makeFunc rfl rfl rfl) ?_
 refine qM (qA rfl) rfl enters48 rfl rfl (v := .int .i64 ((lowI (fun q : Nat => ovF (upF Ts (q : Int))) m) : Int)) (fun w hs => search_c (fun q : Nat => ovF (upF Ts (q : Int))) m g3 (by omega) w (fun i W hi hW => over1_c g3 gt m i o n Cs Ts hA hm9 hm8 hlT (by omega) W ((lies_call (hs.has (⟨g3, 82, [slice (some ⟨gt, 0, none⟩) m m], 1⟩) (by simp)) hW).cell rfl) (lies_rowsT (lies_call (hs.has (⟨gt, 100, flatT Ts, (m * 3)⟩) (by simp)) hW)) (lies_call (hs.has (⟨g3, 82, [slice (some ⟨gt, 0, none⟩) m m], 1⟩) (by simp)) hW).lt (lies_call (hs.has (⟨gt, 100, flatT Ts, (m * 3)⟩) (by simp)) hW).lt) (fun a b hab _ ha => hA.mono hab ha)) ?_
 iterate 3 refine gx ?_
 refine qD [1, 2, 3, 4] ?_
 iterate 9 refine gx ?_
 refine qQ rfl (fun hq0 => ?_) (fun hq0 => ?_)
 ·have hov : ovF (upF Ts ((lowI (fun q : Nat => ovF (upF Ts (q : Int))) m : Nat) : Int)) := by rcases hls.1 with h | h; exact h.2; omega
  iterate 3 refine gx ?_
  refine qB (qA rfl) rfl (qf rfl (vs := [(0, int .i64 4), (1, int .i64 ((lowI (fun q : Nat => ovF (upF Ts (q : Int))) m) : Int))]) rfl (fun w => by first | rfl | kernel_rfl) (v := .agg ([int .i64 4, int .i64 ((lowI (fun q : Nat => ovF (upF Ts (q : Int))) m) : Int)]).toArray)) ?_
  iterate 5 refine gx ?_
  exact qb rfl agg32 size32 rfl (vs := [int .i64 4, int .i64 ((lowI (fun q : Nat => ovF (upF Ts (q : Int))) m) : Int)]) rfl (qS (i := 1) (ent := ⟨g2, 32, [int .i64 4, int .i64 ((lowI (fun q : Nat => ovF (upF Ts (q : Int))) m) : Int)], 2⟩) rfl rfl rfl) (fun w hs => ⟨by rw [hA.over (k := lowI (fun q : Nat => ovF (upF Ts (q : Int))) m) hov (fun j hj => hlow j hj (by omega))], ((((hs.drop (by assumption)).drop (by assumption)).drop (by assumption)).drop (by assumption))⟩)
 ·have hnb : ∀ j : Nat, j < m → ¬ ovF (upF Ts (j : Int)) := by rcases hls.1 with h | h; omega; exact fun j hj => hlow j (by omega) hj
  iterate 8 refine gx ?_
  refine qg (ι := Nat × Nat) (V := fun y => .func (.func 67) #[] #[.pointer (some ⟨y.1, 0, none⟩), .pointer (some ⟨y.2, 0, none⟩)]) (R := fun y => w.heap.size ≤ y.1 ∧ w.heap.size ≤ y.2) (H' := fun y => [⟨g3, 82, [slice (some ⟨gt, 0, none⟩) m m], 1⟩, ⟨g2, 32, [int .i64 0, int .i64 0], 2⟩, ⟨g1, 27, dV o n H1 H2 (slice A m c), 67⟩, ⟨gt, 100, flatT Ts, (m * 3)⟩, ⟨y.1, 82, [slice (some ⟨gt, 0, none⟩) m m], 1⟩, ⟨y.2, 3, [int .i64 (m : Int)], 1⟩]) (qA rfl) rfl enters51 rfl rfl (fun w hs => (upTo_c gt m (m : Int) w).mono fun e w' ⟨y, he, hR, hw⟩ => ⟨y, he, ⟨Nat.le_trans hs.size hR.1, Nat.le_trans hs.size hR.2⟩, st_call hs hw (fun e he => by rcases List.mem_cons.1 he with rfl | he; exact hR.1; rw [List.mem_singleton.1 he]; exact hR.2)⟩) (fun y hR => ?_)
  obtain ⟨u1, v1⟩ := y
  obtain ⟨hu1, hv1⟩ := hR
  dsimp only at hu1 hv1 ⊢
  refine qg (ι := Int) (V := fun z => .int .i64 z) (R := fun z => gapR (upF Ts (m : Int)) z) (H' := fun _ => [⟨g3, 82, [slice (some ⟨gt, 0, none⟩) m m], 1⟩, ⟨g2, 32, [int .i64 0, int .i64 0], 2⟩, ⟨g1, 27, dV o n H1 H2 (slice A m c), 67⟩, ⟨gt, 100, flatT Ts, (m * 3)⟩, ⟨u1, 82, [slice (some ⟨gt, 0, none⟩) m m], 1⟩, ⟨v1, 3, [int .i64 (m : Int)], 1⟩]) (qA rfl) rfl enters52 rfl rfl (fun w hs => (gap_c u1 v1 gt m Ts (m : Int) (by omega) hm9 (hA.nums hm8) n hA.n0 (hA.pos _) (hA.ends _) w (capT_of (hs.has (⟨u1, 82, [slice (some ⟨gt, 0, none⟩) m m], 1⟩) (by simp)) (hs.has (⟨v1, 3, [int .i64 (m : Int)], 1⟩) (by simp)) (lies_rowsT (hs.has (⟨gt, 100, flatT Ts, (m * 3)⟩) (by simp))) hlT (hs.has (⟨gt, 100, flatT Ts, (m * 3)⟩) (by simp)).lt)).mono fun e w' ⟨y, he, hR, hw⟩ => ⟨y, he, hR, hs.call' hw⟩) (fun z hz => ?_)
  iterate 3 refine gx ?_
  refine qD [1, 2, 5] ?_
  iterate 8 refine gx ?_
  refine qQ rfl (fun hq1 => ?_) (fun hq1 => ?_)
  ·iterate 3 refine gx ?_
   refine qB (qA rfl) rfl (qf rfl (vs := [(0, int .i64 3), (1, int .i64 z)]) rfl (fun w => by first | rfl | kernel_rfl) (v := .agg ([int .i64 3, int .i64 z]).toArray)) ?_
   iterate 5 refine gx ?_
   exact qb rfl agg32 size32 rfl (vs := [int .i64 3, int .i64 z]) rfl (qS (i := 1) (ent := ⟨g2, 32, [int .i64 3, int .i64 z], 2⟩) rfl rfl rfl) (fun w hs => ⟨by rw [hA.gap hC.1 hnb hz hq1], ((((((hs.drop (by assumption)).drop (by assumption)).drop (by assumption)).drop (by assumption)).drop (by assumption)).drop (by assumption))⟩)
  ·iterate 4 refine gx ?_
   refine qB (qA rfl) rfl (qf rfl (vs := []) rfl (fun w => by first | rfl | kernel_rfl) (v := .agg ([int .i64 0, int .i64 0]).toArray)) ?_
   iterate 4 refine gx ?_
   exact qb rfl agg32 size32 rfl (vs := [int .i64 0, int .i64 0]) rfl (qS (i := 1) (ent := ⟨g2, 32, [int .i64 0, int .i64 0], 2⟩) rfl rfl rfl) (fun w hs => ⟨by rw [hA.none hC.1 hnb hz hq1], ((((((hs.drop (by assumption)).drop (by assumption)).drop (by assumption)).drop (by assumption)).drop (by assumption)).drop (by assumption))⟩)
/-
 The code of layer 5: checkCommand, Check, Valid.
-/
theorem agg27 : (isAgg 27).run Tryd.prog = fun w => .ok true w := isAgg_yes Tryd.underlying27 rfl
theorem enters17 : Enters Tryd.prog 17 := ⟨_, Tryd.func17, by kernel_rfl, by kernel_rfl⟩
theorem enters29 : Enters Tryd.prog 29 := ⟨_, Tryd.func29, by kernel_rfl, by kernel_rfl⟩
theorem enters30 : Enters Tryd.prog 30 := ⟨_, Tryd.func30, by kernel_rfl, by kernel_rfl⟩
theorem enters31 : Enters Tryd.prog 31 := ⟨_, Tryd.func31, by kernel_rfl, by kernel_rfl⟩
theorem enters36 : Enters Tryd.prog 36 := ⟨_, Tryd.func36, by kernel_rfl, by kernel_rfl⟩
theorem enters44 : Enters Tryd.prog 44 := ⟨_, Tryd.func44, by kernel_rfl, by kernel_rfl⟩
theorem enters45 : Enters Tryd.prog 45 := ⟨_, Tryd.func45, by kernel_rfl, by kernel_rfl⟩
theorem geq32 : Tryd.prog.eqGuardType Tryd.prog.depth 32 = false := by kernel_rfl
theorem sih32 : Tryd.prog.stoodInHeld 32 = false := by kernel_rfl
theorem size27 : (Tryd.prog.info? 27).map (·.size) = some 67 := by kernel_rfl
instance : AgY Tryd.prog 27 := ⟨agg27⟩
instance : Fld Tryd.prog 27 0 0 := ⟨⟨_, _, _, Tryd.underlying27, rfl, size3, rfl⟩⟩
instance : Siz Tryd.prog 27 67 := ⟨size27⟩
theorem file_c (n : Int) (w : World) : Calls Tryd.prog 29 #[.int .i64 n] w fun e w' => e = .returned (.agg ([int .i64 0, int .i64 n]).toArray) ∧ St w [] w' := by
 refine qN (args := [.int .i64 n]) Tryd.func29 rfl Tryd.ntmps29 (by simp) ?_
 refine qD [0] ?_
 iterate 2 refine gx ?_
 refine qW (fun g1 hg1 => ?_)
 iterate 5 refine gx ?_
 refine qB (qA rfl) rfl (qf rfl (vs := [(1, int .i64 n)]) rfl (fun w => by first | rfl | kernel_rfl) (v := .agg ([int .i64 0, int .i64 n]).toArray)) ?_
 iterate 4 refine gx ?_
 exact qb rfl agg64 size64 rfl (vs := [int .i64 0, int .i64 n]) rfl (qS (i := 0) (ent := ⟨g1, 64, [int .i64 0, int .i64 n], 2⟩) rfl rfl rfl) (fun w hs => ⟨rfl, (hs.drop (by assumption))⟩)
theorem code_kind {k t f l : Int} {m : Nat} (h : codeV k t f l m = 0) : k = 1 ∨ k = 2 := by
 by_cases h1 : k = 1
 ·exact .inl h1
 ·by_cases h2 : k = 2
  ·exact .inr h2
  ·unfold codeV at h; rw [if_neg h1, if_neg h2] at h; cases h
theorem src1_c (k t f l : Int) (A : Option Addr) (m c : Nat) (hk : k = 1) (w : World) : Calls Tryd.prog 36 #[.agg ([int .i64 k, int .i64 t, int .i64 f, int .i64 l, slice A m c]).toArray] w fun e w' => e = .returned (.tuple #[.agg ([int .i64 f, int .i64 l]).toArray, .bool true]) ∧ St w [] w' := by
 subst hk; exact source1 t f l A m c w
theorem src2_c (k t f l : Int) (A : Option Addr) (m c : Nat) (hk : k = 2) (w : World) : Calls Tryd.prog 36 #[.agg ([int .i64 k, int .i64 t, int .i64 f, int .i64 l, slice A m c]).toArray] w fun e w' => e = .returned (.tuple #[.agg ([int .i64 0, int .i64 0]).toArray, .bool false]) ∧ St w [] w' := by
 subst hk; exact source2 t f l A m c w
theorem fault_zero {o n : Int} {Cs : List CV} (h : (faultI o n Cs).1 = 0) : (faultI o n Cs).2 = 0 := by
 obtain ⟨h1, h2, h3, h4⟩ := faultI_valid h
 rw [faultI_gap h1 h2 h3, if_neg (by omega)]
theorem sg_bad (o n : Int) (H1 H2 : List Int) (hH1 : H1.length = 32) (hH2 : H2.length = 32) (A : Option Addr) (m c : Nat) (Cs : List CV) (x : CV) (hok : okLen o n) (hn : NumC x) (hv : ¬ codeV x.k x.t x.f x.l x.m = 0) (w : World) : Calls Tryd.prog 30 #[.agg (dV o n H1 H2 (slice A m c)).toArray, .agg ([int .i64 x.k, int .i64 x.t, int .i64 x.f, int .i64 x.l, slice x.A x.m x.c]).toArray] w fun e w' => e = .returned (.int .i64 (singleV o n x)) ∧ St w [] w' := by
 have hnx := hn
 unfold NumC at hnx
 have hlb := lenV_bd (k := x.k) (l := x.l) (m := x.m) (by omega) (by omega)
 have hok2 := hok
 unfold okLen at hok2
 refine qN (args := [.agg (dV o n H1 H2 (slice A m c)).toArray, .agg ([int .i64 x.k, int .i64 x.t, int .i64 x.f, int .i64 x.l, slice x.A x.m x.c]).toArray]) Tryd.func30 rfl Tryd.ntmps30 (by simp) ?_
 refine qD [0, 1] ?_
 iterate 2 refine gx ?_
 refine TL.box (qA rfl) rfl rfl rfl (cs := dV o n H1 H2 (slice A m c)) (by simp [Value.cells]) (tot := 67) (by simp [hH1, hH2]) (fun g1 hg1 => ?_)
 refine TL.bxA (fun g2 hg2 => ?_)
 iterate 7 refine gx ?_
 refine qM (qA rfl) rfl enters44 rfl rfl (v := .int .i64 (codeV x.k x.t x.f x.l x.m)) (fun w hs => check_c x.k x.t x.f x.l x.A x.m x.c (by omega) (by omega) (by omega) (by omega) w) ?_
 iterate 6 refine gx ?_
 refine qB (qA rfl) rfl (qh (Gets.neq rfl rfl rfl) hv) ?_
 iterate 2 refine gx ?_
 refine qD [2, 3, 4, 5, 11] ?_
 refine TC.yes rfl ?_
 iterate 8 refine gx ?_
 exact qK rfl rfl (fun w hs => ⟨ret_i (by unfold singleV; (try unfold inside_ at *); (repeat' split) <;> first | rfl | (exfalso; omega)), ((hs.drop (by assumption)).drop (by assumption))⟩)
theorem sg_one (o n : Int) (H1 H2 : List Int) (hH1 : H1.length = 32) (hH2 : H2.length = 32) (A : Option Addr) (m c : Nat) (Cs : List CV) (x : CV) (hok : okLen o n) (hn : NumC x) (hv : codeV x.k x.t x.f x.l x.m = 0) (hk : x.k = 1) (w : World) : Calls Tryd.prog 30 #[.agg (dV o n H1 H2 (slice A m c)).toArray, .agg ([int .i64 x.k, int .i64 x.t, int .i64 x.f, int .i64 x.l, slice x.A x.m x.c]).toArray] w fun e w' => e = .returned (.int .i64 (singleV o n x)) ∧ St w [] w' := by
 have hnx := hn
 unfold NumC at hnx
 have hlb := lenV_bd (k := x.k) (l := x.l) (m := x.m) (by omega) (by omega)
 have hok2 := hok
 unfold okLen at hok2
 have hcv := codeV_facts hv
 unfold vld at hcv
 have hcf := hcv.2.2 hk
 refine qN (args := [.agg (dV o n H1 H2 (slice A m c)).toArray, .agg ([int .i64 x.k, int .i64 x.t, int .i64 x.f, int .i64 x.l, slice x.A x.m x.c]).toArray]) Tryd.func30 rfl Tryd.ntmps30 (by simp) ?_
 refine qD [0, 1] ?_
 iterate 2 refine gx ?_
 refine TL.box (qA rfl) rfl rfl rfl (cs := dV o n H1 H2 (slice A m c)) (by simp [Value.cells]) (tot := 67) (by simp [hH1, hH2]) (fun g1 hg1 => ?_)
 refine TL.bxA (fun g2 hg2 => ?_)
 iterate 7 refine gx ?_
 refine qM (qA rfl) rfl enters44 rfl rfl (v := .int .i64 (codeV x.k x.t x.f x.l x.m)) (fun w hs => check_c x.k x.t x.f x.l x.A x.m x.c (by omega) (by omega) (by omega) (by omega) w) ?_
 iterate 6 refine gx ?_
 refine qB (qA rfl) rfl (qi (Gets.neq rfl rfl rfl) (fun h => h hv)) ?_
 iterate 2 refine gx ?_
 refine qD [2, 3, 4, 5, 11] ?_
 refine TC.no rfl ?_
 iterate 6 refine gx ?_
 refine qM (qA rfl) rfl enters36 rfl rfl (v := .tuple #[.agg ([int .i64 x.f, int .i64 x.l]).toArray, .bool true]) (fun w hs => src1_c x.k x.t x.f x.l x.A x.m x.c hk w) ?_
 iterate 3 refine gx ?_
 refine qW (fun g3 hg3 => ?_)
 iterate 4 refine gx ?_
 refine qD [2, 3, 4, 6, 7] ?_
 refine gx ?_
 refine TC.mixS [⟨g3, 64, [int .i64 x.f, int .i64 x.l], 2⟩, ⟨g2, 38, [int .i64 x.k, int .i64 x.t, int .i64 x.f, int .i64 x.l, slice x.A x.m x.c], 5⟩, ⟨g1, 27, dV o n H1 H2 (slice A m c), 67⟩] [] (by kernel_rfl) [0, 0, 0, 1, 1, 1, 3, 1, 0, 0] [0, 1, 2, 3, 4, 5, 6, 7, 8, 9] [fun _ _ => True, fun _ _ => True, fun _ _ => True, fun _ _ => True, fun _ _ => True, fun _ _ => True, fun v d => ∃ g, v = .slice (some ⟨g, 0, none⟩) 1 1 ∧ d = [⟨g, 64, [.int .i64 x.f, .int .i64 x.l], 2⟩], fun _ _ => True, fun _ _ => True, fun _ _ => True] (by kernel_rfl) (by kernel_rfl) (perm_pick (p := [0, 1, 2]) (by kernel_rfl) rfl) qX ?_
 iterate 4 refine gx ?_
 refine TR.call0 (qL rfl rfl rfl) rfl enters29 rfl rfl (v := .agg ([int .i64 0, int .i64 o]).toArray) (fun Z w hZ hs => file_c o w) ?_
 refine gx ?_
 refine TR.buildSlice (qL rfl rfl rfl) rfl rfl Tryd.underlying110 size64 zero64 rfl (by decide) (by decide) (cells := #[.int .i64 x.f, .int .i64 x.l]) (tot := 2) (by kernel_rfl) (cs := [.int .i64 x.f, .int .i64 x.l]) rfl rfl (fun g4 hg4 => ?_)
 refine TR.call0 (qL rfl rfl rfl) rfl enters45 rfl rfl (v := .bool (decide (inside_ 0 o x.f x.l))) (fun Z w hZ hs => contains1 0 o x.f x.l (by omega) (by omega) g4 (hs.has (⟨g4, 64, [int .i64 x.f, int .i64 x.l], 2⟩) (by simp)).lt (lies_row0 (hs.has (⟨g4, 64, [int .i64 x.f, int .i64 x.l], 2⟩) (by simp)))) ?_
 iterate 4 refine gx ?_
 refine qD [2, 3, 4, 27] ?_
 refine qQ rfl (fun hq1 => ?_) (fun hq1 => ?_)
 ·iterate 7 refine gx ?_
  exact qK rfl rfl (fun w hs => ⟨ret_i (by unfold singleV; (try unfold inside_ at *); (repeat' split) <;> first | rfl | (exfalso; omega)), ((((hs.drop (by assumption)).drop (by assumption)).drop (by assumption)).drop (by assumption))⟩)
 ·iterate 4 refine gx ?_
  refine TC.mixS [⟨g3, 64, [int .i64 x.f, int .i64 x.l], 2⟩, ⟨g2, 38, [int .i64 x.k, int .i64 x.t, int .i64 x.f, int .i64 x.l, slice x.A x.m x.c], 5⟩, ⟨g1, 27, dV o n H1 H2 (slice A m c), 67⟩, ⟨g4, 64, [int .i64 x.f, int .i64 x.l], 2⟩] [] (by kernel_rfl) [0, 1, 1, 1, 1, 3, 1, 0] [0, 1, 2, 3, 4, 5, 6, 7] [fun _ _ => True, fun _ _ => True, fun _ _ => True, fun _ _ => True, fun _ _ => True, fun v d => ∃ g, v = .slice (some ⟨g, 0, none⟩) 1 1 ∧ d = [⟨g, 64, [.int .i64 x.t, .int .i64 (lenV x.k x.l x.m)], 2⟩], fun _ _ => True, fun _ _ => True] (by kernel_rfl) (by kernel_rfl) (perm_pick (p := [0, 1, 2, 3]) (by kernel_rfl) rfl) qX ?_
  iterate 2 refine gx ?_
  refine TR.call0 (qA rfl) rfl enters29 rfl rfl (v := .agg ([int .i64 0, int .i64 n]).toArray) (fun Z w hZ hs => file_c n w) ?_
  refine gx ?_
  refine TR.call0 (qA rfl) rfl enters46 rfl rfl (v := .agg ([int .i64 x.t, int .i64 (lenV x.k x.l x.m)]).toArray) (fun Z w hZ hs => tgt_c x.k x.t x.f x.l x.A x.m x.c (.inl hk) w) ?_
  refine TR.buildSlice (qA rfl) rfl rfl Tryd.underlying110 size64 zero64 rfl (by decide) (by decide) (cells := #[.int .i64 x.t, .int .i64 (lenV x.k x.l x.m)]) (tot := 2) (by kernel_rfl) (cs := [.int .i64 x.t, .int .i64 (lenV x.k x.l x.m)]) rfl rfl (fun g5 hg5 => ?_)
  refine TR.call0 (qA rfl) rfl enters45 rfl rfl (v := .bool (decide (inside_ 0 n x.t (lenV x.k x.l x.m)))) (fun Z w hZ hs => contains1 0 n x.t (lenV x.k x.l x.m) (by omega) (by omega) g5 (hs.has (⟨g5, 64, [int .i64 x.t, int .i64 (lenV x.k x.l x.m)], 2⟩) (by simp)).lt (lies_row0 (hs.has (⟨g5, 64, [int .i64 x.t, int .i64 (lenV x.k x.l x.m)], 2⟩) (by simp)))) ?_
  iterate 3 refine gx ?_
  refine qD [4, 35] ?_
  refine qQ rfl (fun hq2 => ?_) (fun hq2 => ?_)
  ·iterate 7 refine gx ?_
   exact qK rfl rfl (fun w hs => ⟨ret_i (by unfold singleV; (try unfold inside_ at *); (repeat' split) <;> first | rfl | (exfalso; omega)), (((((hs.drop (by assumption)).drop (by assumption)).drop (by assumption)).drop (by assumption)).drop (by assumption))⟩)
  ·iterate 8 refine gx ?_
   exact qK rfl rfl (fun w hs => ⟨ret_i (by unfold singleV; (try unfold inside_ at *); (repeat' split) <;> first | rfl | (exfalso; omega)), (((((hs.drop (by assumption)).drop (by assumption)).drop (by assumption)).drop (by assumption)).drop (by assumption))⟩)
theorem sg_two (o n : Int) (H1 H2 : List Int) (hH1 : H1.length = 32) (hH2 : H2.length = 32) (A : Option Addr) (m c : Nat) (Cs : List CV) (x : CV) (hok : okLen o n) (hn : NumC x) (hv : codeV x.k x.t x.f x.l x.m = 0) (hk : x.k = 2) (w : World) : Calls Tryd.prog 30 #[.agg (dV o n H1 H2 (slice A m c)).toArray, .agg ([int .i64 x.k, int .i64 x.t, int .i64 x.f, int .i64 x.l, slice x.A x.m x.c]).toArray] w fun e w' => e = .returned (.int .i64 (singleV o n x)) ∧ St w [] w' := by
 have hnx := hn
 unfold NumC at hnx
 have hlb := lenV_bd (k := x.k) (l := x.l) (m := x.m) (by omega) (by omega)
 have hok2 := hok
 unfold okLen at hok2
 have hcv := codeV_facts hv
 unfold vld at hcv
 refine qN (args := [.agg (dV o n H1 H2 (slice A m c)).toArray, .agg ([int .i64 x.k, int .i64 x.t, int .i64 x.f, int .i64 x.l, slice x.A x.m x.c]).toArray]) Tryd.func30 rfl Tryd.ntmps30 (by simp) ?_
 refine qD [0, 1] ?_
 iterate 2 refine gx ?_
 refine TL.box (qA rfl) rfl rfl rfl (cs := dV o n H1 H2 (slice A m c)) (by simp [Value.cells]) (tot := 67) (by simp [hH1, hH2]) (fun g1 hg1 => ?_)
 refine TL.bxA (fun g2 hg2 => ?_)
 iterate 7 refine gx ?_
 refine qM (qA rfl) rfl enters44 rfl rfl (v := .int .i64 (codeV x.k x.t x.f x.l x.m)) (fun w hs => check_c x.k x.t x.f x.l x.A x.m x.c (by omega) (by omega) (by omega) (by omega) w) ?_
 iterate 6 refine gx ?_
 refine qB (qA rfl) rfl (qi (Gets.neq rfl rfl rfl) (fun h => h hv)) ?_
 iterate 2 refine gx ?_
 refine qD [2, 3, 4, 5, 11] ?_
 refine TC.no rfl ?_
 iterate 6 refine gx ?_
 refine qM (qA rfl) rfl enters36 rfl rfl (v := .tuple #[.agg ([int .i64 0, int .i64 0]).toArray, .bool false]) (fun w hs => src2_c x.k x.t x.f x.l x.A x.m x.c hk w) ?_
 iterate 3 refine gx ?_
 refine qW (fun g3 hg3 => ?_)
 iterate 4 refine gx ?_
 refine qD [2, 3, 4, 6, 7] ?_
 refine gx ?_
 refine TC.mixS [⟨g3, 64, [int .i64 0, int .i64 0], 2⟩, ⟨g2, 38, [int .i64 x.k, int .i64 x.t, int .i64 x.f, int .i64 x.l, slice x.A x.m x.c], 5⟩, ⟨g1, 27, dV o n H1 H2 (slice A m c), 67⟩] [] (by kernel_rfl) [0, 0, 0, 0, 0, 0, 0, 0, 0, 0] [0, 1, 2, 3, 4, 5, 6, 7, 8, 9] [fun _ _ => True, fun _ _ => True, fun _ _ => True, fun _ _ => True, fun _ _ => True, fun _ _ => True, fun _ _ => True, fun _ _ => True, fun _ _ => True, fun _ _ => True] (by kernel_rfl) (by kernel_rfl) (perm_pick (p := [0, 1, 2]) (by kernel_rfl) rfl) qX ?_
 iterate 2 refine gx ?_
 refine TR.pass rfl rfl rfl rfl rfl ?_
 refine TR.pass rfl rfl rfl rfl rfl ?_
 refine TR.pass rfl rfl rfl rfl rfl ?_
 refine TR.pass rfl rfl rfl rfl rfl ?_
 refine TR.pass rfl rfl rfl rfl rfl ?_
 refine TR.pass rfl rfl rfl rfl rfl ?_
 refine TR.pass rfl rfl rfl rfl rfl ?_
 iterate 3 refine gx ?_
 refine qD [2, 3, 4, 27] ?_
 refine TC.no rfl ?_
 iterate 4 refine gx ?_
 refine TC.mixS [⟨g3, 64, [int .i64 0, int .i64 0], 2⟩, ⟨g2, 38, [int .i64 x.k, int .i64 x.t, int .i64 x.f, int .i64 x.l, slice x.A x.m x.c], 5⟩, ⟨g1, 27, dV o n H1 H2 (slice A m c), 67⟩] [] (by kernel_rfl) [0, 1, 1, 1, 1, 3, 1, 0] [0, 1, 2, 3, 4, 5, 6, 7] [fun _ _ => True, fun _ _ => True, fun _ _ => True, fun _ _ => True, fun _ _ => True, fun v d => ∃ g, v = .slice (some ⟨g, 0, none⟩) 1 1 ∧ d = [⟨g, 64, [.int .i64 x.t, .int .i64 (lenV x.k x.l x.m)], 2⟩], fun _ _ => True, fun _ _ => True] (by kernel_rfl) (by kernel_rfl) (perm_pick (p := [0, 1, 2]) (by kernel_rfl) rfl) qX ?_
 iterate 2 refine gx ?_
 refine TR.call0 (qA rfl) rfl enters29 rfl rfl (v := .agg ([int .i64 0, int .i64 n]).toArray) (fun Z w hZ hs => file_c n w) ?_
 refine gx ?_
 refine TR.call0 (qA rfl) rfl enters46 rfl rfl (v := .agg ([int .i64 x.t, int .i64 (lenV x.k x.l x.m)]).toArray) (fun Z w hZ hs => tgt_c x.k x.t x.f x.l x.A x.m x.c (.inr hk) w) ?_
 refine TR.buildSlice (qA rfl) rfl rfl Tryd.underlying110 size64 zero64 rfl (by decide) (by decide) (cells := #[.int .i64 x.t, .int .i64 (lenV x.k x.l x.m)]) (tot := 2) (by kernel_rfl) (cs := [.int .i64 x.t, .int .i64 (lenV x.k x.l x.m)]) rfl rfl (fun g4 hg4 => ?_)
 refine TR.call0 (qA rfl) rfl enters45 rfl rfl (v := .bool (decide (inside_ 0 n x.t (lenV x.k x.l x.m)))) (fun Z w hZ hs => contains1 0 n x.t (lenV x.k x.l x.m) (by omega) (by omega) g4 (hs.has (⟨g4, 64, [int .i64 x.t, int .i64 (lenV x.k x.l x.m)], 2⟩) (by simp)).lt (lies_row0 (hs.has (⟨g4, 64, [int .i64 x.t, int .i64 (lenV x.k x.l x.m)], 2⟩) (by simp)))) ?_
 iterate 3 refine gx ?_
 refine qD [4, 35] ?_
 refine qQ rfl (fun hq2 => ?_) (fun hq2 => ?_)
 ·iterate 7 refine gx ?_
  exact qK rfl rfl (fun w hs => ⟨ret_i (by unfold singleV; (try unfold inside_ at *); (repeat' split) <;> first | rfl | (exfalso; omega)), ((((hs.drop (by assumption)).drop (by assumption)).drop (by assumption)).drop (by assumption))⟩)
 ·iterate 8 refine gx ?_
  exact qK rfl rfl (fun w hs => ⟨ret_i (by unfold singleV; (try unfold inside_ at *); (repeat' split) <;> first | rfl | (exfalso; omega)), ((((hs.drop (by assumption)).drop (by assumption)).drop (by assumption)).drop (by assumption))⟩)
theorem sg_c (o n : Int) (H1 H2 : List Int) (hH1 : H1.length = 32) (hH2 : H2.length = 32) (A : Option Addr) (m c : Nat) (Cs : List CV) (x : CV) (hok : okLen o n) (hn : NumC x) (w : World) : Calls Tryd.prog 30 #[.agg (dV o n H1 H2 (slice A m c)).toArray, .agg ([int .i64 x.k, int .i64 x.t, int .i64 x.f, int .i64 x.l, slice x.A x.m x.c]).toArray] w fun e w' => e = .returned (.int .i64 (singleV o n x)) ∧ St w [] w' := by
 by_cases hv : codeV x.k x.t x.f x.l x.m = 0
 ·rcases code_kind hv with hk | hk
  ·exact sg_one o n H1 H2 hH1 hH2 A m c Cs x hok hn hv hk w
  ·exact sg_two o n H1 H2 hH1 hH2 A m c Cs x hok hn hv hk w
 ·exact sg_bad o n H1 H2 hH1 hH2 A m c Cs x hok hn hv w
theorem dcheck_c (o n : Int) (H1 H2 : List Int) (hH1 : H1.length = 32) (hH2 : H2.length = 32) (A : Option Addr) (m c : Nat) (Cs : List CV) (hmm : m ≤ 1000000000) (hN : NumsC Cs) (w : World) (hC : SrcC w A m Cs) (hD : DatC w Cs) (bo : -9223372036854775808 ≤ o ∧ o ≤ 9223372036854775807) (bn : -9223372036854775808 ≤ n ∧ n ≤ 9223372036854775807)  : Calls Tryd.prog 17 #[.agg (dV o n H1 H2 (slice A m c)).toArray] w fun e w' => e = .returned (.agg ([int .i64 ((faultI o n Cs).1), int .i64 ((faultI o n Cs).2)]).toArray) ∧ St w [] w' := by
 refine qN (args := [.agg (dV o n H1 H2 (slice A m c)).toArray]) Tryd.func17 rfl Tryd.ntmps17 (by simp) ?_
 refine qD [0] ?_
 iterate 2 refine gx ?_
 refine TL.box (qA rfl) rfl rfl rfl (cs := dV o n H1 H2 (slice A m c)) (by simp [Value.cells]) (tot := 67) (by simp [hH1, hH2]) (fun g1 hg1 => ?_)
 refine qW (fun g2 hg2 => ?_)
 iterate 7 refine gx ?_
 refine qM (qA rfl) rfl enters29 rfl rfl (v := .agg ([int .i64 0, int .i64 o]).toArray) (fun w hs => file_c o w) ?_
 refine qM (qA rfl) rfl enters28 rfl rfl (v := .bool (decide (vld 0 o))) (fun w hs => valid_c 0 o (by omega) (by omega) w) ?_
 refine gx ?_
 by_cases c1 : ¬ (vld 0 o)
 ·have hno : ¬ okLen o n := by unfold okLen; unfold vld at c1; omega
  refine qB (qA rfl) rfl (qh (qr rfl rfl) c1) ?_
  iterate 8 refine gx ?_
  refine qD [1, 2, 17] ?_
  refine TC.yes rfl ?_
  iterate 2 refine gx ?_
  refine qB (qA rfl) rfl (qf rfl (vs := [(0, int .i64 2), (1, int .i64 (-1))]) rfl (fun w => by first | rfl | kernel_rfl) (v := .agg ([int .i64 2, int .i64 (-1)]).toArray)) ?_
  iterate 5 refine gx ?_
  exact qb rfl agg32 size32 rfl (vs := [int .i64 2, int .i64 (-1)]) rfl (qS (i := 0) (ent := ⟨g2, 32, [int .i64 2, int .i64 (-1)], 2⟩) rfl rfl rfl) (fun w hs => ⟨by rw [faultI_len hno], ((hs.drop (by assumption)).drop (by assumption))⟩)
 ·refine qB (qA rfl) rfl (qi (qr rfl rfl) c1) ?_
  iterate 2 refine gx ?_
  refine qM (qL rfl rfl rfl) rfl enters29 rfl rfl (v := .agg ([int .i64 0, int .i64 n]).toArray) (fun w hs => file_c n w) ?_
  refine qM (qL rfl rfl rfl) rfl enters28 rfl rfl (v := .bool (decide (vld 0 n))) (fun w hs => valid_c 0 n (by omega) (by omega) w) ?_
  iterate 4 refine gx ?_
  refine qD [1, 2, 17] ?_
  refine qQ rfl (fun hq0 => ?_) (fun hq0 => ?_)
  ·have hno : ¬ okLen o n := by unfold okLen; unfold vld at hq0; omega
   iterate 2 refine gx ?_
   refine qB (qA rfl) rfl (qf rfl (vs := [(0, int .i64 2), (1, int .i64 (-1))]) rfl (fun w => by first | rfl | kernel_rfl) (v := .agg ([int .i64 2, int .i64 (-1)]).toArray)) ?_
   iterate 5 refine gx ?_
   exact qb rfl agg32 size32 rfl (vs := [int .i64 2, int .i64 (-1)]) rfl (qS (i := 0) (ent := ⟨g2, 32, [int .i64 2, int .i64 (-1)], 2⟩) rfl rfl rfl) (fun w hs => ⟨by rw [faultI_len hno], ((hs.drop (by assumption)).drop (by assumption))⟩)
  ·have hok : okLen o n := by unfold okLen; unfold vld at c1 hq0; omega
   iterate 12 refine gx ?_
   refine qk (ι := Nat) (fun i => [(1, .pointer (some ⟨g1, 0, none⟩)), (2, .pointer (some ⟨g2, 0, none⟩)), (20, .slice A m c), (21, .int .i64 (m : Int)), (22, .int .i64 (i : Int))]) (fun i => [⟨g2, 32, [int .i64 0, int .i64 0], 2⟩, ⟨g1, 27, dV o n H1 H2 (slice A m c), 67⟩]) (fun i => m - i) (fun i => i ≤ m ∧ ∀ (j : Nat) (y : CV), j < i → Cs[j]? = some y → singleV o n y = 0) 0 ⟨Nat.zero_le _, fun j y h => absurd h (Nat.not_lt_zero j)⟩ (qI (i := 1) rfl (qI (i := 2) rfl (qP (i := 20) rfl rfl (by first | omega | (dsimp only; omega) | rfl) (by first | omega | (dsimp only; omega) | rfl) (qG (i := 21) rfl (by first | omega | rfl) (qG (i := 22) rfl (by first | omega | rfl) (qO)))))) (fun w h => h) (fun i hC0 => ?_)
   obtain ⟨hC0, hC1⟩ := hC0
   iterate 6 refine gx ?_
   refine qQ rfl (fun hq1 => ?_) (fun hq1 => ?_)
   ·obtain ⟨b, off, hAe, hb, hrw⟩ := hC.some_ (i := i) (by omega)
    subst hAe
    obtain ⟨x, hx⟩ := hC.get (i := i) (by omega)
    have hnx := hN i x hx
    unfold NumC at hnx
    have hlbx := lenV_bd (k := x.k) (l := x.l) (m := x.m) (by omega) (by omega)
    iterate 7 refine gx ?_
    refine qB (qA rfl) rfl (qc rfl Tryd.underlying25 size38 rfl rfl (i := i) (by omega) (by omega) (off' := (off + 5 * i)) (by omega)) ?_
    refine qB (qA rfl) rfl (qa rfl agg38 size38 rfl rfl (Row.old (fun jj u h => hrw i x hx jj u h) hb (qC (by show g2 ≠ b; omega) (qC (by show g1 ≠ b; omega) qE)))) ?_
    refine qW (fun g3 hg3 => ?_)
    iterate 4 refine gx ?_
    refine qD [1, 2, 3, 4, 20, 21, 22] ?_
    iterate 4 refine gx ?_
    refine qM (qA rfl) rfl enters30 rfl rfl (v := .int .i64 (singleV o n x)) (fun w hs => sg_c o n H1 H2 hH1 hH2 (some ⟨b, off, none⟩) m c Cs x hok (hN _ x hx) w) ?_
    iterate 3 refine gx ?_
    refine qD [1, 2, 3, 5, 20, 21, 22] ?_
    iterate 6 refine gx ?_
    refine qD [1, 2, 3, 5, 20, 21, 22, 31] ?_
    refine qQ rfl (fun hq2 => ?_) (fun hq2 => ?_)
    ·iterate 4 refine gx ?_
     refine qB (qA rfl) rfl (qf rfl (vs := [(0, int .i64 (singleV o n x)), (1, int .i64 (i : Int))]) rfl (fun w => by first | rfl | kernel_rfl) (v := .agg ([int .i64 (singleV o n x), int .i64 (i : Int)]).toArray)) ?_
     iterate 9 refine gx ?_
     exact qb rfl agg32 size32 rfl (vs := [int .i64 (singleV o n x), int .i64 (i : Int)]) rfl (qS (i := 1) (ent := ⟨g2, 32, [int .i64 (singleV o n x), int .i64 (i : Int)], 2⟩) rfl rfl rfl) (fun w hs => ⟨by rw [faultI_single hok hx hq2 hC1], (((hs.drop (by assumption)).drop (by assumption)).drop (by assumption))⟩)
    ·iterate 4 refine gx ?_
     refine qB (qA rfl) rfl (qT rfl rfl rfl (r := ((i : Int) + 1)) (w64 (by omega) (by omega))) ?_
     iterate 2 refine gx ?_
     exact qj (i + 1) (by omega) ⟨by omega, all_succ hC1 hx (by omega)⟩ (qI (i := 1) rfl (qI (i := 2) rfl (qP (i := 20) rfl (by first | rfl | (congr 2; omega)) (by first | omega | (dsimp only; omega) | rfl) (by first | omega | (dsimp only; omega) | rfl) (qG (i := 21) rfl (by first | omega | rfl) (qG (i := 22) rfl (by first | omega | rfl) (qO)))))) (fun w h => (h.erase (i := 0) rfl (by assumption)))
   ·have hall := all_of (m := m) (by have := hC.1; omega) (fun j y hj => hC1 j y (by omega))
    iterate 8 refine gx ?_
    refine qM (qA rfl) rfl enters31 rfl rfl (v := .agg ([int .i64 ((faultI o n Cs).1), int .i64 ((faultI o n Cs).2)]).toArray) (fun w hs => ct_c o n H1 H2 hH1 hH2 A m c Cs (fun i x hx => code_kind (single_vld (hall i x hx)).2.2.2.1) hok hall hmm hN w (hC.at_ hs (fun b hb => (qC (by show g2 ≠ b; omega) (qC (by show g1 ≠ b; omega) qE))))) ?_
    iterate 4 refine gx ?_
    exact qb rfl agg32 size32 rfl (vs := [int .i64 ((faultI o n Cs).1), int .i64 ((faultI o n Cs).2)]) rfl (qS (i := 0) (ent := ⟨g2, 32, [int .i64 ((faultI o n Cs).1), int .i64 ((faultI o n Cs).2)], 2⟩) rfl rfl rfl) (fun w hs => ⟨rfl, ((hs.drop (by assumption)).drop (by assumption))⟩)
theorem dvalid_c (o n : Int) (H1 H2 : List Int) (hH1 : H1.length = 32) (hH2 : H2.length = 32) (A : Option Addr) (m c : Nat) (Cs : List CV) (hmm : m ≤ 1000000000) (hN : NumsC Cs) (w : World) (hC : SrcC w A m Cs) (hD : DatC w Cs) (bo : -9223372036854775808 ≤ o ∧ o ≤ 9223372036854775807) (bn : -9223372036854775808 ≤ n ∧ n ≤ 9223372036854775807)  : Calls Tryd.prog 6 #[.agg (dV o n H1 H2 (slice A m c)).toArray] w fun e w' => e = .returned (.bool (decide ((faultI o n Cs).1 = 0))) ∧ St w [] w' := by
 refine qN (args := [.agg (dV o n H1 H2 (slice A m c)).toArray]) Tryd.func6 rfl Tryd.ntmps6 (by simp) ?_
 refine qD [0] ?_
 iterate 2 refine gx ?_
 refine TL.box (qA rfl) rfl rfl rfl (cs := dV o n H1 H2 (slice A m c)) (by simp [Value.cells]) (tot := 67) (by simp [hH1, hH2]) (fun g1 hg1 => ?_)
 iterate 6 refine gx ?_
 refine qM (qA rfl) rfl enters17 rfl rfl (v := .agg ([int .i64 ((faultI o n Cs).1), int .i64 ((faultI o n Cs).2)]).toArray) (fun w hs => dcheck_c o n H1 H2 hH1 hH2 A m c Cs hmm hN w (hC.at_ hs (fun b hb => (qC (by show g1 ≠ b; omega) qE))) (hD.at_ hs (fun b hb => (qC (by show g1 ≠ b; omega) qE))) bo bn) ?_
 refine qB (qA rfl) rfl (qf rfl (vs := []) rfl (fun w => by first | rfl | kernel_rfl) (v := .agg ([int .i64 0, int .i64 0]).toArray)) ?_
 refine qB (qA rfl) rfl (Gets.pairEq rfl Tryd.underlying32 (by decide) (by decide) rfl rfl Tryd.underlying30 Tryd.underlying3 sih32 geq32 rfl rfl) ?_
 iterate 4 refine gx ?_
 exact qK rfl rfl (fun w hs => ⟨dec_iff (⟨fun h => h.1, fun h => ⟨h, fault_zero h⟩⟩), (hs.drop (by assumption))⟩)
/-
 The code of layer 5: Totals, Find, Same.
-/
/-
 Clones of commands, with the blocks that hold their bytes.
-/
def OwnB (N : Nat) (Fs : List CV) (He : List Ent) : Prop := (∀ e ∈ He, N ≤ e.g) ∧ NumsC Fs ∧ ∀ w : World, (∀ e ∈ He, e.lies w) → DatC w Fs
def clV (x : CV) (A : Option Addr) (c : Nat) : CV := ⟨x.k, x.t, x.f, x.l, A, x.m, c, x.B⟩
def CloneR (N : Nat) (x : CV) (A : Option Addr) (c : Nat) (He : List Ent) : Prop := (∀ e ∈ He, N ≤ e.g) ∧ NumC (clV x A c) ∧ ∀ w : World, (∀ e ∈ He, e.lies w) → Src w A x.m .u8 x.B ∧ Bytes x.B
theorem CloneR.mono {N N' : Nat} {x : CV} {A : Option Addr} {c : Nat} {He : List Ent} (h : CloneR N' x A c He) (hN : N ≤ N') : CloneR N x A c He := ⟨fun e he => Nat.le_trans hN (h.1 e he), h.2⟩
theorem OwnB.nil (N : Nat) : OwnB N [] [] := ⟨fun e he => (nomatch he), fun i x h => (by simp at h), fun w _ i x h => (by simp at h)⟩
theorem nums_add {Fs : List CV} {z : CV} (h : NumsC Fs) (hz : NumC z) : NumsC (Fs ++ [z]) := fun i x hx => by
 by_cases hi : i < Fs.length
 ·rw [List.getElem?_append_left hi] at hx; exact h i x hx
 ·rw [List.getElem?_append_right (by omega)] at hx
  match hq : i - Fs.length, hx with
  | 0, hx => simp at hx; subst hx; exact hz
  | q + 1, hx => simp at hx
theorem dat_add {w : World} {Fs : List CV} {z : CV} (h : DatC w Fs) (hz : Src w z.A z.m .u8 z.B ∧ Bytes z.B) : DatC w (Fs ++ [z]) := fun i x hx => by
 by_cases hi : i < Fs.length
 ·rw [List.getElem?_append_left hi] at hx; exact h i x hx
 ·rw [List.getElem?_append_right (by omega)] at hx
  match hq : i - Fs.length, hx with
  | 0, hx => simp at hx; subst hx; exact hz
  | q + 1, hx => simp at hx
theorem OwnB.add {N : Nat} {Fs : List CV} {He He' : List Ent} {x : CV} {A : Option Addr} {c : Nat} (h : OwnB N Fs He) (hc : CloneR N x A c He') : OwnB N (Fs ++ [clV x A c]) (He ++ He') :=
 ⟨fun e he => by
  rcases List.mem_append.1 he with he | he
  ·exact h.1 e he
  ·exact hc.1 e he, nums_add h.2.1 hc.2.1, fun w hl => dat_add (h.2.2 w fun e he => hl e (List.mem_append.2 (.inl he))) (hc.2.2 w fun e he => hl e (List.mem_append.2 (.inr he)))⟩
theorem sameE_add {Fs Es : List CV} {i : Nat} {x : CV} {A : Option Addr} {c : Nat} (h : sameE Fs (Es.take i)) (hx : Es[i]? = some x) : sameE (Fs ++ [clV x A c]) (Es.take (i + 1)) := by
 unfold sameE at h ⊢
 rw [List.take_add_one, hx, Option.toList_some, List.map_append, List.map_append, h]
 rfl
def zC : CV := ⟨0, 0, 0, 0, none, 0, 0, []⟩
def stC (Fs : List CV) (r : Nat) : List CV := Fs ++ List.replicate r zC
theorem flatC_cons (z : CV) (R : List CV) : flatC (z :: R) = cellsC z ++ flatC R := by unfold flatC; rw [List.flatMap_cons]
theorem stC_rep (m : Nat) : (List.replicate m [int .i64 0, int .i64 0, int .i64 0, int .i64 0, slice none 0 0]).flatten = flatC (stC [] m) := by
 unfold stC
 rw [List.nil_append]
 induction m with
 | zero => rfl
 | succ m ih => rw [List.replicate_succ, List.replicate_succ, List.flatten_cons, ih, flatC_cons]; rfl
theorem stC_len (Fs : List CV) (r : Nat) : (stC Fs r).length = Fs.length + r := by unfold stC; simp
theorem stC_step {Fs : List CV} {i m : Nat} {z : CV} (hl : Fs.length = i) (hi : i < m) :
  (flatC (stC Fs (m - i))).take (5 * i) ++ cellsC z ++ (flatC (stC Fs (m - i))).drop (5 * i + 5) = flatC (stC (Fs ++ [z]) (m - (i + 1))) := by
 have e1 : stC Fs (m - i) = Fs ++ (zC :: List.replicate (m - (i + 1)) zC) := by
  unfold stC; rw [show m - i = (m - (i + 1)) + 1 by omega, List.replicate_succ]
 have e2 : stC (Fs ++ [z]) (m - (i + 1)) = Fs ++ (z :: List.replicate (m - (i + 1)) zC) := by unfold stC; rw [List.append_assoc]; rfl
 have h3 : (flatC Fs).length = 5 * i := by rw [flatC_len]; omega
 rw [e1, e2, flatC_app, flatC_app, flatC_cons, flatC_cons, List.take_left' h3, List.append_assoc]
 congr 1
 congr 1
 rw [← List.drop_drop, List.drop_left' h3]
 rfl
theorem stC_end {Fs : List CV} {i m : Nat} (h : i = m) : flatC (stC Fs (m - i)) = flatC Fs := by subst h; unfold stC; simp
theorem OwnB.ownD {N g t tot m : Nat} {Fs : List CV} {He : List Ent} {cs : List Value} (h : OwnB N Fs He) (hg : N ≤ g) (hm : Fs.length = m) (hcs : cs = flatC Fs) : OwnD N (some ⟨g, 0, none⟩) m Fs (⟨g, t, cs, tot⟩ :: He) :=
 ⟨fun e he => by
  rcases List.mem_cons.1 he with rfl | he
  ·exact hg
  ·exact h.1 e he, h.2.1, .inr ⟨g, 0, rfl⟩, fun w hl => ⟨lies_srcC (hl _ List.mem_cons_self) hcs hm, h.2.2 w fun e he => hl e (List.mem_cons_of_mem _ he)⟩⟩
theorem with_keep {w0 w : World} {e6 gb : Ent} {R He Hy : List Ent} (h : St w0 (((e6 :: R) ++ He) ++ (([] ++ Hy) ++ [gb])) w) (h6 : w0.heap.size ≤ e6.g) : St w0 ((gb :: R) ++ (He ++ Hy)) w := by
 have hp : (((e6 :: R) ++ He) ++ (([] ++ Hy) ++ [gb])).Perm (e6 :: ((gb :: R) ++ (He ++ Hy))) := by
  rw [List.nil_append]
  show (e6 :: ((R ++ He) ++ (Hy ++ [gb]))).Perm _
  refine List.Perm.cons _ ?_
  rw [← List.append_assoc, ← List.append_assoc]
  refine (List.perm_append_singleton _ _).trans ?_
  rw [List.append_assoc (gb :: R)]
  simp
 exact (h.perm hp).drop h6
theorem OwnS.room {N g m s : Nat} {t : TypeId} (h : N ≤ g) (hm : m ≤ maxLen) : OwnS N t s (.slice (some ⟨g, 0, none⟩) 0 m) 0 [] [⟨g, t, [], m * s⟩] := ⟨by simp, .inr ⟨g, m, rfl, rfl, h, Nat.zero_le _, hm⟩⟩
def pickC (Cs : List CV) (Ts : List TV) : List CV := Ts.map fun t => Cs.getD t.x zC
theorem pick_tv : ∀ (Es : List CV) (Cs : List CV) (i : Nat), (∀ j x, Es[j]? = some x → Cs[i + j]? = some x) → pickC Cs (tvA i Es) = Es
 | [], _, _, _ => rfl
 | c :: Es, Cs, i, h => by
  have h0 := h 0 c rfl
  have ih := pick_tv Es Cs (i + 1) fun j x hx => by rw [show i + 1 + j = i + (j + 1) by omega]; exact h (j + 1) x (by simpa using hx)
  unfold pickC at ih ⊢
  simp only [tvA, List.map_cons]
  rw [ih, List.getD_eq_getElem?_getD]
  rw [Nat.add_zero] at h0
  rw [h0]; rfl
theorem pick_perm {Cs : List CV} {Ts : List TV} (h : Ts.Perm (tvOf Cs)) : (pickC Cs Ts).Perm Cs := by
 have h1 := h.map fun t => Cs.getD t.x zC
 have h2 := pick_tv Cs Cs 0 fun j x hx => by rw [Nat.zero_add]; exact hx
 unfold pickC at h2 ⊢
 rw [h2] at h1; exact h1
theorem tv_key {Cs : List CV} {Ts : List TV} (h : Ts.Perm (tvOf Cs)) {t : TV} (ht : t ∈ Ts) : ∃ c, Cs[t.x]? = some c ∧ t.o = c.t := by
 obtain ⟨j, c, hj, rfl⟩ := tvA_of (h.mem_iff.1 ht)
 exact ⟨c, by rw [Nat.zero_add]; exact hj, rfl⟩
theorem pick_sorted {Cs : List CV} {Ts : List TV} (h : Ts.Perm (tvOf Cs)) (hs : Ts.Pairwise leT) : (pickC Cs Ts).Pairwise leC := by
 unfold pickC
 rw [List.pairwise_map]
 refine hs.imp_of_mem fun {a b} ha hb hab => ?_
 obtain ⟨c, hc, e1⟩ := tv_key h ha
 obtain ⟨d, hd, e2⟩ := tv_key h hb
 rw [List.getD_eq_getElem?_getD, List.getD_eq_getElem?_getD, hc, hd]
 unfold leC leT at *
 simp only [Option.getD_some]
 omega
theorem pick_at {Cs : List CV} {Ts : List TV} {i : Nat} {t : TV} {x : CV} (ht : Ts[i]? = some t) (hx : Cs[t.x]? = some x) : pickC Cs (Ts.take (i + 1)) = pickC Cs (Ts.take i) ++ [x] := by
 unfold pickC
 rw [List.take_add_one, ht, Option.toList_some, List.map_append]
 simp only [List.map_cons, List.map_nil, List.getD_eq_getElem?_getD, hx, Option.getD_some]
/-
 The code of layer 5: Clone, With.
-/
theorem enters43 : Enters Tryd.prog 43 := ⟨_, Tryd.func43, by kernel_rfl, by kernel_rfl⟩
theorem mk38 : (Tryd.prog.info? 38).map (fun i => (i.zero, i.size, i.bytes)) = some (some (.agg #[.int .i64 0, .int .i64 0, .int .i64 0, .int .i64 0, .slice none 0 0]), 5, 56) := by kernel_rfl
theorem zero27 : (Tryd.prog.info? 27).bind (·.zero) = some (.agg #[.int .i64 0, .int .i64 0, .int .u8 0, .int .u8 0, .int .u8 0, .int .u8 0, .int .u8 0, .int .u8 0, .int .u8 0, .int .u8 0, .int .u8 0, .int .u8 0, .int .u8 0, .int .u8 0, .int .u8 0, .int .u8 0, .int .u8 0, .int .u8 0, .int .u8 0, .int .u8 0, .int .u8 0, .int .u8 0, .int .u8 0, .int .u8 0, .int .u8 0, .int .u8 0, .int .u8 0, .int .u8 0, .int .u8 0, .int .u8 0, .int .u8 0, .int .u8 0, .int .u8 0, .int .u8 0, .int .u8 0, .int .u8 0, .int .u8 0, .int .u8 0, .int .u8 0, .int .u8 0, .int .u8 0, .int .u8 0, .int .u8 0, .int .u8 0, .int .u8 0, .int .u8 0, .int .u8 0, .int .u8 0, .int .u8 0, .int .u8 0, .int .u8 0, .int .u8 0, .int .u8 0, .int .u8 0, .int .u8 0, .int .u8 0, .int .u8 0, .int .u8 0, .int .u8 0, .int .u8 0, .int .u8 0, .int .u8 0, .int .u8 0, .int .u8 0, .int .u8 0, .int .u8 0, .slice none 0 0]) := by kernel_rfl
theorem clone_any (x : CV) (w : World) (hs : Src w x.A x.m .u8 x.B) (hB : Bytes x.B) (hn : NumC x) : Calls Tryd.prog 43 #[.agg ([int .i64 x.k, int .i64 x.t, int .i64 x.f, int .i64 x.l, slice x.A x.m x.c]).toArray] w fun e w' => ∃ y : (Option Addr × Nat) × List Ent, e = .returned (.agg ([int .i64 x.k, int .i64 x.t, int .i64 x.f, int .i64 x.l, slice y.1.1 x.m y.1.2]).toArray) ∧ CloneR w.heap.size x y.1.1 y.1.2 y.2 ∧ St w y.2 w' := by
 obtain ⟨k, t, f, l, A, m, c, B⟩ := x
 dsimp only at hs hB ⊢
 have hn2 := hn
 unfold NumC at hn2
 dsimp only at hn2
 cases A with
 | none =>
  have hm : m = 0 := by
   rcases hs.2 with h | ⟨b, off, h, _⟩
   ·exact h
   ·cases h
  subst hm
  refine (clone_nil k t f l 0 c w).mono ?_
  rintro e w' ⟨he, hw⟩
  refine ⟨((none, 0), []), he, ⟨fun e he => (nomatch he), ?_, fun W _ => ⟨⟨hs.1, .inl rfl⟩, hB⟩⟩, hw⟩
  unfold NumC clV; dsimp only; omega
 | some ad =>
  refine (clone_some k t f l ad m c B w hs (by omega) (by omega)).mono ?_
  rintro e w' ⟨g, c', he, hg, hmc, hmx, hw⟩
  refine ⟨((some ⟨g, 0, none⟩, c'), [⟨g, 5, B.map (int .u8), c'⟩]), he, ⟨fun e he => (by rw [List.mem_singleton.1 he]; exact hg), ?_, fun W hl => ⟨src_ent (hl _ List.mem_cons_self) hs.1, hB⟩⟩, hw⟩
  unfold maxLen at hmx
  unfold NumC clV; dsimp only; omega
structure WW where
 i : Nat
 Fs : List CV
 He : List Ent
theorem dwith_c (o n : Int) (H1 H2 : List Int) (hH1 : H1.length = 32) (hH2 : H2.length = 32) (A : Option Addr) (m c : Nat) (A2 : Option Addr) (m2 c2 : Nat) (Es : List CV) (hmm2 : m2 ≤ 1000000000) (hN2 : NumsC Es) (w : World) (hC2 : SrcC w A2 m2 Es) (hE : DatC w Es) (hf2 : fewQ Es)  : Calls Tryd.prog 27 #[.agg (dV o n H1 H2 (slice A m c)).toArray, .slice A2 m2 c2] w fun e w' => ∃ A' c' Fs He, e = .returned (.agg (dV o n H1 H2 (slice A' m2 ((c')))).toArray) ∧ (m2 ≤ c' ∧ c' ≤ 9223372036854775807) ∧ OwnD w.heap.size A' m2 Fs He ∧ sameE Fs Es ∧ St w He w' := by
 refine qN (args := [.agg (dV o n H1 H2 (slice A m c)).toArray, .slice A2 m2 c2]) Tryd.func27 rfl Tryd.ntmps27 (by simp) ?_
 refine qD [0, 1] ?_
 iterate 2 refine gx ?_
 refine TL.box (qA rfl) rfl rfl rfl (cs := dV o n H1 H2 (slice A m c)) (by simp [Value.cells]) (tot := 67) (by simp [hH1, hH2]) (fun g1 hg1 => ?_)
 refine TL.alloc (qA rfl) rfl rfl zero27 (cs := [int .i64 0, int .i64 0] ++ ((List.replicate 64 0).map (int .u8) ++ ([slice none 0 0]))) rfl (tot := 67) (by simp) (fun g2 hg2 => ?_)
 iterate 6 refine gx ?_
 refine TL.makeSliceS (qA rfl) rfl rfl Tryd.underlying25 mk38 (zs := [int .i64 0, int .i64 0, int .i64 0, int .i64 0, slice none 0 0]) rfl rfl (by decide) rfl rfl (ln := m2) (cp := m2) (by omega) (by omega) (by omega) (by omega) (by omega) (cs := flatC (stC [] m2)) (tot := m2 * 5) (stC_rep m2) rfl (fun g3 hg3 => ?_)
 refine gx ?_
 refine qo (qA rfl) rfl rfl size25 rfl rfl rfl (i := 2) rfl rfl (by simp [hH1, hH2] <;> omega) (cs' := [int .i64 o, int .i64 n] ++ (H1.map (int .u8) ++ (H2.map (int .u8) ++ ([slice (some ⟨g3, 0, none⟩) m2 m2])))) (set_right (a := 2) (i := 64) (rfl) (set_right (a := 32) (i := 32) (ints_len hH1) (set_right (a := 32) (i := 0) (ints_len hH2) (rfl)))) (H' := [⟨g3, 38, flatC (stC [] m2), (m2 * 5)⟩, ⟨g2, 27, [int .i64 0, int .i64 0] ++ ((List.replicate 64 0).map (int .u8) ++ ([slice none 0 0])), 67⟩, ⟨g1, 27, [int .i64 o, int .i64 n] ++ (H1.map (int .u8) ++ (H2.map (int .u8) ++ ([slice (some ⟨g3, 0, none⟩) m2 m2]))), 67⟩]) rfl ?_
 iterate 10 refine gx ?_
 refine qD [2, 4, 11, 12, 13] ?_
 refine gx ?_
 refine qk (ι := WW) (fun x0 => [(2, .pointer (some ⟨g1, 0, none⟩)), (4, .pointer (some ⟨g2, 0, none⟩)), (11, .slice A2 m2 c2), (12, .int .i64 (m2 : Int)), (13, .int .i64 (x0.i : Int))]) (fun x0 => [⟨g3, 38, flatC (stC x0.Fs (m2 - x0.i)), (m2 * 5)⟩, ⟨g2, 27, [int .i64 0, int .i64 0] ++ ((List.replicate 64 0).map (int .u8) ++ ([slice none 0 0])), 67⟩, ⟨g1, 27, [int .i64 o, int .i64 n] ++ (H1.map (int .u8) ++ (H2.map (int .u8) ++ ([slice (some ⟨g3, 0, none⟩) m2 m2]))), 67⟩] ++ x0.He) (fun x0 => m2 - x0.i) (fun x0 => OwnB w.heap.size x0.Fs x0.He ∧ sameE x0.Fs (Es.take x0.i) ∧ x0.i ≤ m2) (⟨0, [], []⟩ : WW) ⟨OwnB.nil _, rfl, Nat.zero_le _⟩ (qI (i := 2) rfl (qI (i := 4) rfl (qP (i := 11) rfl rfl (by first | omega | (dsimp only; omega) | rfl) (by first | omega | (dsimp only; omega) | rfl) (qG (i := 12) rfl (by first | omega | rfl) (qG (i := 13) rfl rfl (qO)))))) (fun w h => by rw [List.append_nil]; exact h) (fun x0 hC0 => ?_)
 obtain ⟨i, Fs, He⟩ := x0
 obtain ⟨hOw, hsm, him⟩ := hC0
 dsimp only at hOw hsm him ⊢
 have hF : Fresh w He := hOw.1
 have hFl : Fs.length = i := by have h1 := hsm.len; have h2 := hC2.1; rw [List.length_take] at h1; omega
 iterate 6 refine gx ?_
 refine qQ rfl (fun hq0 => ?_) (fun hq0 => ?_)
 ·obtain ⟨b, off, hAe, hb, hrw⟩ := hC2.some_ (i := i) (by omega)
  subst hAe
  obtain ⟨x, hx⟩ := hC2.get (i := i) (by omega)
  iterate 7 refine gx ?_
  refine qB (qA rfl) rfl (qc rfl Tryd.underlying25 size38 rfl rfl (i := i) (by omega) (by omega) (off' := (off + 5 * i)) (by omega)) ?_
  refine qB (qA rfl) rfl (qa rfl agg38 size38 rfl rfl (Row.old (fun jj u h => hrw i x hx jj u h) hb (qU (qC (by show g3 ≠ b; omega) (qC (by show g2 ≠ b; omega) (qC (by show g1 ≠ b; omega) qE))) (hF.ne hb)))) ?_
  refine qW (fun g4 hg4 => ?_)
  refine gx ?_
  refine qs (qA rfl) rfl rfl size38 rfl (vs := [int .i64 x.k, int .i64 x.t, int .i64 x.f, int .i64 x.l, slice x.A x.m x.c]) rfl (by simp []) (by simp [Value.oneCell']) (i := 0) (ent := ⟨g4, 38, [int .i64 0, int .i64 0, int .i64 0, int .i64 0, slice none 0 0], 5⟩) rfl rfl (by simp []) (H' := [⟨g4, 38, [int .i64 x.k, int .i64 x.t, int .i64 x.f, int .i64 x.l, slice x.A x.m x.c], 5⟩, ⟨g3, 38, flatC (stC Fs (m2 - i)), (m2 * 5)⟩, ⟨g2, 27, [int .i64 0, int .i64 0] ++ ((List.replicate 64 0).map (int .u8) ++ ([slice none 0 0])), 67⟩, ⟨g1, 27, [int .i64 o, int .i64 n] ++ (H1.map (int .u8) ++ (H2.map (int .u8) ++ ([slice (some ⟨g3, 0, none⟩) m2 m2]))), 67⟩] ++ He) rfl ?_
  iterate 2 refine gx ?_
  refine qD [2, 4, 5, 6, 11, 12, 13] ?_
  refine TC.mixS ([Ent.mk g4 38 ([int .i64 x.k, int .i64 x.t, int .i64 x.f, int .i64 x.l, slice x.A x.m x.c]) 5, Ent.mk g2 27 ([int .i64 0, int .i64 0] ++ ((List.replicate 64 0).map (int .u8) ++ ([slice none 0 0]))) 67, Ent.mk g1 27 ([int .i64 o, int .i64 n] ++ (H1.map (int .u8) ++ (H2.map (int .u8) ++ ([slice (some ⟨g3, 0, none⟩) m2 m2])))) 67] ++ He) [⟨g3, 38, flatC (stC Fs (m2 - i)), (m2 * 5)⟩] (by kernel_rfl) [0, 1, 0, 1, 3, 0, 4] [0, 1, 2, 3, 4, 5, 6] [fun _ _ => True, fun _ _ => True, fun _ _ => True, fun _ _ => True, fun v e => ∃ y : (Option Addr × Nat) × List Ent, (CloneR w.heap.size x y.1.1 y.1.2 y.2) ∧ v = .agg ([int .i64 x.k, int .i64 x.t, int .i64 x.f, int .i64 x.l, slice y.1.1 x.m y.1.2]).toArray ∧ e = y.2, fun _ _ => True, fun _ _ => True] (by kernel_rfl) (by kernel_rfl) (perm_midE (A := [Ent.mk g4 38 ([int .i64 x.k, int .i64 x.t, int .i64 x.f, int .i64 x.l, slice x.A x.m x.c]) 5]) (g := Ent.mk g3 38 (flatC (stC Fs (m2 - i))) (m2 * 5)) (B := [Ent.mk g2 27 ([int .i64 0, int .i64 0] ++ ((List.replicate 64 0).map (int .u8) ++ ([slice none 0 0]))) 67, Ent.mk g1 27 ([int .i64 o, int .i64 n] ++ (H1.map (int .u8) ++ (H2.map (int .u8) ++ ([slice (some ⟨g3, 0, none⟩) m2 m2])))) 67] ++ He)) (qF (by assumption) qX) ?_
  iterate 4 refine gx ?_
  refine TR.call3 (ι := (Option Addr × Nat) × List Ent) (V := fun y => .agg ([int .i64 x.k, int .i64 x.t, int .i64 x.f, int .i64 x.l, slice y.1.1 x.m y.1.2]).toArray) (R := fun y => CloneR w.heap.size x y.1.1 y.1.2 y.2) (E := fun y => y.2) (qA rfl) rfl enters43 rfl rfl (fun Z w hZ hs => (clone_any x w ((hE i x hx).1.at_ hs (fun b hb => (qU (qU (qC (by show g4 ≠ b; omega) (qC (by show g2 ≠ b; omega) (qC (by show g1 ≠ b; omega) qE))) (hF.ne hb)) (hZ.ne hb)))) (hE i x hx).2 (hN2 i x hx)).mono fun e w' ⟨y, he, hR, hw⟩ => ⟨y, he, hR.mono hs.size, hR.1, hw⟩) (fun y hR hFy => ?_)
  refine TR.free (qA rfl) rfl (fun _ => qc rfl Tryd.underlying25 size38 rfl rfl (i := i) (by omega) (by omega) (off' := (5 * i)) (by omega)) ?_
  refine TR.storeN (qA rfl) rfl rfl size38 rfl (vs := [int .i64 x.k, int .i64 x.t, int .i64 x.f, int .i64 x.l, slice y.1.1 x.m y.1.2]) rfl rfl (by simp [Value.oneCell']) (i := 0) (ent := ⟨g3, 38, flatC (stC Fs (m2 - i)), (m2 * 5)⟩) rfl rfl (by show (5 * i) + 5 ≤ (flatC (stC Fs (m2 - i))).length; rw [flatC_len, stC_len]; omega) (cs' := flatC (stC (Fs ++ [clV x y.1.1 y.1.2]) (m2 - (i + 1)))) (stC_step (i := i) (m := m2) (z := clV x y.1.1 y.1.2) hFl (by omega)) (D' := [⟨g3, 38, flatC (stC (Fs ++ [clV x y.1.1 y.1.2]) (m2 - (i + 1))), (m2 * 5)⟩]) rfl (qF (by assumption) qX) ?_
  refine gx ?_
  refine TE.heap (H' := [Ent.mk g3 38 (flatC (stC (Fs ++ [clV x y.1.1 y.1.2]) (m2 - (i + 1)))) (m2 * 5), Ent.mk g2 27 ([int .i64 0, int .i64 0] ++ ((List.replicate 64 0).map (int .u8) ++ ([slice none 0 0]))) 67, Ent.mk g1 27 ([int .i64 o, int .i64 n] ++ (H1.map (int .u8) ++ (H2.map (int .u8) ++ ([slice (some ⟨g3, 0, none⟩) m2 m2])))) 67] ++ (He ++ y.2)) (fun w h => with_keep h (by assumption)) ?_
  have hOw2 := hOw.add hR
  have hF2 : Fresh w (He ++ y.2) := hOw2.1
  iterate 2 refine gx ?_
  refine qD [2, 4, 11, 12, 13] ?_
  refine gx ?_
  refine qB (qA rfl) rfl (qT rfl rfl rfl (r := ((i : Int) + 1)) (w64 (by omega) (by omega))) ?_
  iterate 2 refine gx ?_
  exact qj (⟨i + 1, Fs ++ [clV x y.1.1 y.1.2], He ++ y.2⟩ : WW) (by show m2 - (i + 1) < m2 - i; omega) ⟨hOw2, sameE_add hsm hx, (by show i + 1 ≤ m2; omega)⟩ (qI (i := 2) rfl (qI (i := 4) rfl (qP (i := 11) rfl (by first | rfl | (congr 2; omega)) (by first | omega | (dsimp only; omega) | rfl) (by first | omega | (dsimp only; omega) | rfl) (qG (i := 12) rfl (by first | omega | rfl) (qG (i := 13) rfl rfl (qO)))))) (fun w h => h)
 ·have hiq : i = m2 := by omega
  have hsmE : sameE Fs Es := by rw [List.take_of_length_le (by have := hC2.1; omega)] at hsm; exact hsm
  iterate 8 refine gx ?_
  refine qs (qA rfl) rfl rfl size27 rfl (vs := [int .i64 o, int .i64 n] ++ (H1.map (int .u8) ++ (H2.map (int .u8) ++ ([slice (some ⟨g3, 0, none⟩) m2 m2])))) rfl (by simp [hH1, hH2]) (qq (by simp [Value.oneCell']) (qq qn (qq qn (by simp [Value.oneCell'])))) (i := 1) (ent := ⟨g2, 27, [int .i64 0, int .i64 0] ++ ((List.replicate 64 0).map (int .u8) ++ ([slice none 0 0])), 67⟩) rfl rfl (by simp []) (H' := [⟨g3, 38, flatC (stC Fs (m2 - i)), (m2 * 5)⟩, ⟨g2, 27, [int .i64 o, int .i64 n] ++ (H1.map (int .u8) ++ (H2.map (int .u8) ++ ([slice (some ⟨g3, 0, none⟩) m2 m2]))), 67⟩, ⟨g1, 27, [int .i64 o, int .i64 n] ++ (H1.map (int .u8) ++ (H2.map (int .u8) ++ ([slice (some ⟨g3, 0, none⟩) m2 m2]))), 67⟩] ++ He) rfl ?_
  iterate 3 refine gx ?_
  exact qb rfl agg27 size27 rfl (vs := [int .i64 o, int .i64 n] ++ (H1.map (int .u8) ++ (H2.map (int .u8) ++ ([slice (some ⟨g3, 0, none⟩) m2 m2])))) (by simp [hH1, hH2]) (qS (i := 1) (ent := ⟨g2, 27, [int .i64 o, int .i64 n] ++ (H1.map (int .u8) ++ (H2.map (int .u8) ++ ([slice (some ⟨g3, 0, none⟩) m2 m2]))), 67⟩) rfl rfl rfl) (fun w hs => ⟨some ⟨g3, 0, none⟩, m2, Fs, _, rfl, ⟨Nat.le_refl _, by omega⟩, hOw.ownD hg3 (hFl.trans hiq) (stC_end hiq), hsmE, (hs.erase (i := 1) rfl (by assumption)).erase (i := 1) rfl (by assumption)⟩)
/-
 The code of layer 5: Sort.
-/
theorem enters27 : Enters Tryd.prog 27 := ⟨_, Tryd.func27, by kernel_rfl, by kernel_rfl⟩
theorem dsort_c (o n : Int) (H1 H2 : List Int) (hH1 : H1.length = 32) (hH2 : H2.length = 32) (A : Option Addr) (m c : Nat) (Cs : List CV) (hmm : m ≤ 1000000000) (hN : NumsC Cs) (w : World) (hC : SrcC w A m Cs) (hD : DatC w Cs) (hf : fewQ Cs) (hVC : ValidC o n Cs)  : Calls Tryd.prog 35 #[.agg (dV o n H1 H2 (slice A m c)).toArray] w fun e w' => ∃ A' c' Fs He, e = .returned (.agg (dV o n H1 H2 (slice A' m ((c')))).toArray) ∧ (m ≤ c' ∧ c' ≤ 9223372036854775807) ∧ OwnD w.heap.size A' m Fs He ∧ (∃ Gs : List CV, Gs.Perm Cs ∧ Gs.Pairwise leC ∧ sameE Fs Gs) ∧ St w He w' := by
 have hk12 : ∀ (i : Nat) (x : CV), Cs[i]? = some x → x.k = 1 ∨ x.k = 2 := fun i x hx => code_kind (single_vld (hVC.single i x hx)).2.2.2.1
 refine qN (args := [.agg (dV o n H1 H2 (slice A m c)).toArray]) Tryd.func35 rfl Tryd.ntmps35 (by simp) ?_
 refine qD [0] ?_
 iterate 2 refine gx ?_
 refine TL.box (qA rfl) rfl rfl rfl (cs := dV o n H1 H2 (slice A m c)) (by simp [Value.cells]) (tot := 67) (by simp [hH1, hH2]) (fun g1 hg1 => ?_)
 refine TL.alloc (qA rfl) rfl rfl zero27 (cs := [int .i64 0, int .i64 0] ++ ((List.replicate 64 0).map (int .u8) ++ ([slice none 0 0]))) rfl (tot := 67) (by simp) (fun g2 hg2 => ?_)
 iterate 7 refine gx ?_
 refine TL.makeSliceS (qA rfl) rfl rfl Tryd.underlying25 mk38 (zs := [int .i64 0, int .i64 0, int .i64 0, int .i64 0, slice none 0 0]) rfl rfl (by decide) rfl rfl (ln := 0) (cp := m) rfl (by omega) (by omega) (by omega) (by omega) (cs := flatC (stC [] m)) (tot := m * 5) (stC_rep m) rfl (fun g3 hg3 => ?_)
 iterate 8 refine gx ?_
 refine qg (ι := Nat × List TV) (V := fun y => .slice (some ⟨y.1, 0, none⟩) m m) (R := fun y => (y.2.Perm (tvOf Cs) ∧ y.2.Pairwise leT) ∧ w.heap.size ≤ y.1) (H' := fun y => [⟨g3, 38, flatC (stC [] m), (m * 5)⟩, ⟨g2, 27, [int .i64 0, int .i64 0] ++ ((List.replicate 64 0).map (int .u8) ++ ([slice none 0 0])), 67⟩, ⟨g1, 27, dV o n H1 H2 (slice A m c), 67⟩, ⟨y.1, 100, flatT y.2, (m * 3)⟩]) (qA rfl) rfl enters47 rfl rfl (fun w hs => (asc_c A m c Cs hk12 (by omega) hN w (hC.at_ hs (fun b hb => (qC (by show g3 ≠ b; omega) (qC (by show g2 ≠ b; omega) (qC (by show g1 ≠ b; omega) qE)))))).mono fun e w' ⟨y, he, hR, hg, hw⟩ => ⟨y, he, ⟨hR, Nat.le_trans hs.size hg⟩, st_call hs hw (fun e he => by rw [List.mem_singleton.1 he]; exact hg)⟩) (fun y hR => ?_)
 obtain ⟨gt, Ts⟩ := y
 obtain ⟨⟨hTp, hTs⟩, hgt⟩ := hR
 dsimp only at hTp hTs hgt ⊢
 iterate 4 refine gx ?_
 refine qD [1, 2, 3, 12, 13, 14] ?_
 refine gx ?_
 refine qk (ι := WS) (fun x0 => [(1, .pointer (some ⟨g1, 0, none⟩)), (2, .pointer (some ⟨g2, 0, none⟩)), (3, x0.v), (12, .slice (some ⟨gt, 0, none⟩) m m), (13, .int .i64 (m : Int)), (14, .int .i64 (x0.i : Int))]) (fun x0 => [⟨g2, 27, [int .i64 0, int .i64 0] ++ ((List.replicate 64 0).map (int .u8) ++ ([slice none 0 0])), 67⟩, ⟨g1, 27, dV o n H1 H2 (slice A m c), 67⟩, ⟨gt, 100, flatT Ts, (m * 3)⟩] ++ x0.He) (fun x0 => m - x0.i) (fun x0 => OwnS w.heap.size 38 5 x0.v x0.i (flatC x0.Es) x0.He ∧ x0.Es = pickC Cs (Ts.take x0.i) ∧ x0.i ≤ m) (⟨0, .slice (some ⟨g3, 0, none⟩) 0 m, [], [⟨g3, 38, [], m * 5⟩]⟩ : WS) ⟨OwnS.room hg3 (by unfold maxLen; omega), rfl, Nat.zero_le _⟩ (qI (i := 1) rfl (qI (i := 2) rfl (qI (i := 3) rfl (qP (i := 12) rfl rfl (by first | omega | (dsimp only; omega) | rfl) (by first | omega | (dsimp only; omega) | rfl) (qG (i := 13) rfl (by first | omega | rfl) (qG (i := 14) rfl rfl (qO))))))) (fun w h => (St.less h).perm (List.perm_append_singleton _ _).symm) (fun x0 hC0 => ?_)
 obtain ⟨i, v, Es, He⟩ := x0
 obtain ⟨hown, hEq, him⟩ := hC0
 dsimp only at hown hEq him ⊢
 have hF : Fresh w He := hown.new
 obtain ⟨Ao, co, rfl, hco, hco2⟩ := hown.form
 iterate 6 refine gx ?_
 refine qQ rfl (fun hq0 => ?_) (fun hq0 => ?_)
 ·obtain ⟨tv, htv⟩ : ∃ tv, Ts[i]? = some tv := ⟨_, List.getElem?_eq_getElem (by have h1 := hTp.length_eq; rw [tvA_len] at h1; have := hC.1; omega)⟩
  obtain ⟨x, hx, htx⟩ := tv_key hTp (List.mem_of_getElem? htv)
  have hxm : tv.x < m := by have h1 := (List.getElem?_eq_some_iff.1 hx).1; have := hC.1; omega
  obtain ⟨b, off, hAe, hb, hrw⟩ := hC.some_ (i := tv.x) hxm
  subst hAe
  iterate 6 refine gx ?_
  refine qB (qA rfl) rfl (qc rfl Tryd.underlying82 size100 rfl rfl (i := i) (by omega) (by omega) (off' := (3 * i)) (by omega)) ?_
  refine qB (qA rfl) rfl (qa rfl agg100 size100 rfl (vs := [int .i64 tv.o, int .i64 tv.l, int .i64 (tv.x : Int)]) rfl (Row.ent (i := 2) (ent := ⟨gt, 100, flatT Ts, (m * 3)⟩) rfl rfl (fun j u h => flatT_get htv h))) ?_
  refine qW (fun g4 hg4 => ?_)
  refine qs (qA rfl) rfl rfl size100 rfl (vs := [int .i64 tv.o, int .i64 tv.l, int .i64 (tv.x : Int)]) rfl (by simp []) (by simp [Value.oneCell']) (i := 0) (ent := ⟨g4, 100, [int .i64 0, int .i64 0, int .i64 0], 3⟩) rfl rfl (by simp []) (H' := [⟨g4, 100, [int .i64 tv.o, int .i64 tv.l, int .i64 (tv.x : Int)], 3⟩, ⟨g2, 27, [int .i64 0, int .i64 0] ++ ((List.replicate 64 0).map (int .u8) ++ ([slice none 0 0])), 67⟩, ⟨g1, 27, [int .i64 o, int .i64 n] ++ (H1.map (int .u8) ++ (H2.map (int .u8) ++ ([slice (some ⟨b, off, none⟩) m c]))), 67⟩, ⟨gt, 100, flatT Ts, (m * 3)⟩] ++ He) rfl ?_
  iterate 2 refine gx ?_
  refine qD [1, 2, 3, 5, 12, 13, 14] ?_
  iterate 6 refine gx ?_
  refine qB (qA rfl) rfl (qc rfl Tryd.underlying25 size38 rfl rfl (i := tv.x) (by omega) (by omega) (off' := (off + 5 * tv.x)) (by omega)) ?_
  refine qB (qA rfl) rfl (qa rfl agg38 size38 rfl rfl (Row.old (fun jj u h => hrw tv.x x hx jj u h) hb (qU (qC (by show g4 ≠ b; omega) (qC (by show g2 ≠ b; omega) (qC (by show g1 ≠ b; omega) (qC (by show gt ≠ b; omega) qE)))) (hF.ne hb)))) ?_
  refine qw (qA rfl) rfl rfl Tryd.underlying25 size38 zero38 rfl (by decide) (by decide) (cells := #[.int .i64 x.k, .int .i64 x.t, .int .i64 x.f, .int .i64 x.l, .slice x.A x.m x.c]) (tot := 5) (by kernel_rfl) (cs := [.int .i64 x.k, .int .i64 x.t, .int .i64 x.f, .int .i64 x.l, .slice x.A x.m x.c]) rfl rfl (fun g5 hg5 => ?_)
  refine TL.appendS (H := [Ent.mk g5 38 ([int .i64 x.k, int .i64 x.t, int .i64 x.f, int .i64 x.l, slice x.A x.m x.c]) 5, Ent.mk g4 100 ([int .i64 tv.o, int .i64 tv.l, int .i64 (tv.x : Int)]) 3, Ent.mk g2 27 ([int .i64 0, int .i64 0] ++ ((List.replicate 64 0).map (int .u8) ++ ([slice none 0 0]))) 67, Ent.mk g1 27 ([int .i64 o, int .i64 n] ++ (H1.map (int .u8) ++ (H2.map (int .u8) ++ ([slice (some ⟨b, off, none⟩) m c])))) 67, Ent.mk gt 100 (flatT Ts) (m * 3)]) (He := He) (qA rfl) rfl rfl Tryd.underlying25 mk38 rfl (by decide) rfl rfl (s := 5) (nn := i) (m := 1) (cs := flatC Es) (news := cellsC x) hown rfl (fun w hs => lies_srcV (hs.has (Ent.mk g5 38 ([int .i64 x.k, int .i64 x.t, int .i64 x.f, int .i64 x.l, slice x.A x.m x.c]) 5) (by simp))) (by intro u hu; exact flatC_one' [x] u (by rw [flatC_one]; exact hu)) (by unfold maxLen; omega) (by omega) (fun v2 He2 hown2 => ?_)
  have hF2 : Fresh w He2 := hown2.new
  iterate 4 refine gx ?_
  refine qD [1, 2, 3, 12, 13, 14] ?_
  refine gx ?_
  refine qB (qA rfl) rfl (qT rfl rfl rfl (r := ((i : Int) + 1)) (w64 (by omega) (by omega))) ?_
  iterate 2 refine gx ?_
  exact qj (⟨i + 1, v2, Es ++ [x], He2⟩ : WS) (by show m - (i + 1) < m - i; omega) ⟨(by show OwnS _ _ _ _ _ (flatC (Es ++ [x])) _; rw [flatC_app, flatC_one]; exact hown2), (by show Es ++ [x] = _; rw [hEq, pick_at htv hx]), (by show i + 1 ≤ m; omega)⟩ (qI (i := 1) rfl (qI (i := 2) rfl (qI (i := 3) rfl (qP (i := 12) rfl rfl (by first | omega | (dsimp only; omega) | rfl) (by first | omega | (dsimp only; omega) | rfl) (qG (i := 13) rfl (by first | omega | rfl) (qG (i := 14) rfl rfl (qO))))))) (fun w h => ((h.erase (i := 1) rfl (by assumption)).erase (i := 0) rfl (by assumption)))
 ·obtain rfl : m = i := by omega
  have hTl : Ts.length = m := by have h1 := hTp.length_eq; rw [tvA_len] at h1; have := hC.1; omega
  rw [List.take_of_length_le (by omega)] at hEq
  have hEp : Es.Perm Cs := by rw [hEq]; exact pick_perm hTp
  have hEs : Es.Pairwise leC := by rw [hEq]; exact pick_sorted hTp hTs
  iterate 9 refine gx ?_
  refine qg (ι := (Option Addr × Nat) × (List CV × List Ent)) (V := fun y => .agg (dV o n H1 H2 (slice y.1.1 m y.1.2)).toArray) (R := fun y => (m ≤ y.1.2 ∧ y.1.2 ≤ 9223372036854775807) ∧ OwnD w.heap.size y.1.1 m y.2.1 y.2.2 ∧ sameE y.2.1 Es) (H' := fun y => [⟨g2, 27, [int .i64 0, int .i64 0] ++ ((List.replicate 64 0).map (int .u8) ++ ([slice none 0 0])), 67⟩, ⟨g1, 27, dV o n H1 H2 (slice A m c), 67⟩, ⟨gt, 100, flatT Ts, (m * 3)⟩] ++ He ++ y.2.2) (qA rfl) rfl enters27 rfl rfl (fun w hs => (dwith_c o n H1 H2 hH1 hH2 A m c Ao m co Es hmm (hN.sub fun x hx => hEp.mem_iff.1 hx) w (hown.srcC (fun e he => hs.has e (by simp [he]))) ((hD.at_ hs (fun b hb => (qU (qC (by show g2 ≠ b; omega) (qC (by show g1 ≠ b; omega) (qC (by show gt ≠ b; omega) qE))) (hF.ne hb)))).sub fun x hx => hEp.mem_iff.1 hx) (hf.sub2 hEp)).mono fun e w' ⟨A', c', Fs, He, he, hc, ho, hsm, hw⟩ => ⟨((A', c'), (Fs, He)), he, ⟨hc, ho.mono hs.size, hsm⟩, st_call hs hw ho.1⟩) (fun y hR => ?_)
  obtain ⟨⟨As, cs⟩, Fs, Hw⟩ := y
  obtain ⟨hcs, hos, hsm⟩ := hR
  dsimp only at hcs hos hsm ⊢
  have hFw : Fresh w Hw := hos.1
  refine TL.heap (H' := [⟨g2, 27, [int .i64 0, int .i64 0] ++ ((List.replicate 64 0).map (int .u8) ++ ([slice none 0 0])), 67⟩, ⟨g1, 27, dV o n H1 H2 (slice A m c), 67⟩, ⟨gt, 100, flatT Ts, (m * 3)⟩] ++ (He ++ Hw)) (fun w h => by rw [← List.append_assoc]; exact h) ?_
  have hFtHw := ql hF hFw
  refine qs (qA rfl) rfl rfl size27 rfl (vs := dV o n H1 H2 (slice As m cs)) rfl (by simp [hH1, hH2]) (qq (by simp [Value.oneCell']) (qq qn (qq qn (by simp [Value.oneCell'])))) (i := 0) (ent := ⟨g2, 27, [int .i64 0, int .i64 0] ++ ((List.replicate 64 0).map (int .u8) ++ ([slice none 0 0])), 67⟩) rfl rfl (by simp []) (H' := [⟨g2, 27, dV o n H1 H2 (slice As m cs), 67⟩, ⟨g1, 27, dV o n H1 H2 (slice A m c), 67⟩, ⟨gt, 100, flatT Ts, (m * 3)⟩] ++ (He ++ Hw)) rfl ?_
  iterate 3 refine gx ?_
  exact qb rfl agg27 size27 rfl (vs := dV o n H1 H2 (slice As m cs)) (by simp [hH1, hH2]) (qS (i := 0) (ent := ⟨g2, 27, dV o n H1 H2 (slice As m cs), 67⟩) rfl rfl rfl) (fun w hs => ⟨As, cs, Fs, Hw, rfl, hcs, hos, ⟨Es, hEp, hEs, hsm⟩, qv He (((hs.erase (i := 0) rfl (by assumption)).erase (i := 0) rfl (by assumption)).erase (i := 0) rfl (by assumption)) hown.new⟩)
def atV (B : List Int) (x : CV) (p : Int) : Int := if x.k = 1 then B.getD (x.f + p - x.t).toNat 0 else x.B.getD (p - x.t).toNat 0
noncomputable def byteI (B : List Int) (Cs : List CV) (p : Int) : Int := match Cs[(findI Cs p).toNat]? with
 | some x => atV B x p
 | none => 0
noncomputable def newB (B : List Int) (Cs : List CV) (n : Int) : List Int := (List.range n.toNat).map fun i : Nat => byteI B Cs i
theorem newB_len {B : List Int} {Cs : List CV} {n : Int} : (newB B Cs n).length = n.toNat := by simp [newB]
theorem newB_get {B : List Int} {Cs : List CV} {n : Int} {i : Nat} (hi : (i : Int) < n) : (newB B Cs n)[i]? = some (byteI B Cs i) := by
 unfold newB; rw [List.getElem?_map, List.getElem?_range (by omega)]; rfl
theorem find_at {Cs : List CV} {a N p : Int} (ht : tidyT a N (Cs.map tg)) {i : Nat} {x : CV} (hx : Cs[i]? = some x) (hb : hasB (tg x) p) : findI Cs p = i := findI_is (.inr ⟨i, x, rfl, hx, hb, fun j y hj hy hb' => by
 have hil := (List.getElem?_eq_some_iff.1 hx).1
 have h1 := List.pairwise_iff_getElem.1 ht.2 j i (by simpa using (List.getElem?_eq_some_iff.1 hy).1) (by simpa using hil) hj
 simp only [List.getElem_map, (List.getElem?_eq_some_iff.1 hx).2, (List.getElem?_eq_some_iff.1 hy).2] at h1
 unfold apartT at h1; unfold hasB at hb hb'
 omega⟩)
theorem byteI_of {B : List Int} {Cs : List CV} {a N p : Int} (ht : tidyT a N (Cs.map tg)) {i : Nat} {x : CV} (hx : Cs[i]? = some x) (hb : hasB (tg x) p) : byteI B Cs p = atV B x p := by
 unfold byteI; rw [find_at ht hx hb, Int.toNat_natCast, hx]
theorem ValidC.find {o n p : Int} {Cs : List CV} (h : ValidC o n Cs) (h0 : 0 ≤ p) (hp : p < n) : ∃ (i : Nat) (x : CV), findI Cs p = i ∧ Cs[i]? = some x ∧ hasB (tg x) p := by
 obtain ⟨q, hq, hb⟩ := h.cover p h0 hp
 obtain ⟨x, hx, rfl⟩ := List.mem_map.1 hq
 obtain ⟨i, hi⟩ := List.mem_iff_getElem?.1 hx
 exact ⟨i, x, find_at h.tidy hi hb, hi, hb⟩
theorem byteI_perm {B : List Int} {Cs Es : List CV} {o n p : Int} (h : ValidC o n Cs) (hp : Cs.Perm Es) (h0 : 0 ≤ p) (hn : p < n) : byteI B Es p = byteI B Cs p := by
 obtain ⟨i, x, h1, h2, h3⟩ := h.find h0 hn
 obtain ⟨j, hj⟩ := List.mem_iff_getElem?.1 (hp.mem_iff.1 (List.mem_of_getElem? h2))
 rw [byteI_of h.tidy h2 h3, byteI_of (h.tidy.perm (hp.map tg)) hj h3]
theorem newB_perm {B : List Int} {Cs Es : List CV} {o n : Int} (h : ValidC o n Cs) (hp : Cs.Perm Es) : newB B Es n = newB B Cs n := by
 unfold newB
 refine List.map_congr_left fun i hi => ?_
 have := List.mem_range.1 hi
 exact byteI_perm h hp (by omega) (by omega)
end Go.Proofs.YtegddcklbmonfaaDoor
