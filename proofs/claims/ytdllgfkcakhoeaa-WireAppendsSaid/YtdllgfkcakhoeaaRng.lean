/-
  Ranges over functions, and iterators, in the engine's terms.
-/
import Derived.Test.YtdllgfkcakhoeaaRul
import Derived.Test.YtdllgfkcakhoeaaIter
namespace Go.Proofs.Ytdllgfkcakhoeaa
set_option linter.unusedVariables false
set_option linter.unusedSimpArgs false
open Go Go.RowKit
set_option linter.unusedVariables false

section
variable {P : Program} {ops : Array Oper} {Q : Exit → Act → World → Prop} {n : Sz} {w0 v W w : World} {L L' : List (Nat × Value)} {H A B HC X : List Ent} {o : Oper} {rest : List Oper} {ex : Exit}

theorem St.self (h : St w0 H w) : St w H w := ⟨rfl, rfl, rfl, Nat.le_refl _, h.has, fun _ _ _ => rfl, h.apart⟩
theorem St.self1 (h : St w0 (A ++ B) w) : St w A w := ⟨rfl, rfl, rfl, Nat.le_refl _, fun e he => h.has e (List.mem_append.2 (.inl he)), fun _ _ _ => rfl, (List.pairwise_append.1 h.apart).1⟩
/-- One stretch behind another. -/
theorem St.over (h : St w0 (A ++ HC) v) (k : St v B w) (h1 : ∀ e ∈ B, ∀ d ∈ HC, e.g ≠ d.g) (h2 : ∀ d ∈ A, w0.heap.size ≤ d.g ∨ ∃ e ∈ B, e.g = d.g) : St w0 (B ++ HC) w := by
  refine ⟨k.os.trans h.os, k.tape.trans h.tape, k.output.trans h.output, Nat.le_trans h.size k.size, ?_, ?_, ?_⟩
  · intro e he
    rcases List.mem_append.1 he with he | he
    · exact k.has e he
    · have hl := h.has e (List.mem_append.2 (.inr he))
      exact hl.of_block (k.old _ hl.lt (fun d hd => h1 d hd e he))
  · intro b hb hneb
    have hbv := Nat.lt_of_lt_of_le hb h.size
    refine (k.old b hbv (fun e he => hneb e (List.mem_append.2 (.inl he)))).trans (h.old b hb ?_)
    intro d hd
    rcases List.mem_append.1 hd with hd | hd
    · rcases h2 d hd with h2 | ⟨e, he, heg⟩
      · omega
      · rw [← heg]; exact hneb e (List.mem_append.2 (.inl he))
    · exact hneb d (List.mem_append.2 (.inr hd))
  · rw [List.pairwise_append]
    exact ⟨k.apart, (List.pairwise_append.1 h.apart).2.1, fun e he d hd => h1 e he d hd⟩
theorem St.dropAll : ∀ (X : List Ent), St w0 (X ++ H) w → (∀ e ∈ X, w0.heap.size ≤ e.g) → St w0 H w
  | [], h, _ => h
  | e :: X, h, hx => St.dropAll X (h.drop (hx e List.mem_cons_self)) fun d hd => hx d (List.mem_cons_of_mem _ hd)
theorem St.besides {lo hi : Nat} (h : St w0 H v) (hb : Beside lo hi v w) (h1 : ∀ e ∈ H, e.g < lo ∨ hi ≤ e.g) (h2 : w0.heap.size ≤ lo) : St w0 H w :=
  ⟨hb.os.trans h.os, hb.tape.trans h.tape, hb.output.trans h.output, Nat.le_trans h.size hb.size,
    fun e he => (h.has e he).of_block (hb.block _ (h.has e he).lt (fun hc => by have := h1 e he; omega)),
    fun b hlt hne => (hb.block b (Nat.lt_of_lt_of_le hlt h.size) (fun hc => by omega)).trans (h.old b hlt hne), h.apart⟩
theorem gs_mem {Hi H0 : List Ent} (hgs : Hi.map (·.g) = H0.map (·.g)) : ∀ e ∈ Hi, ∃ d ∈ H0, d.g = e.g := fun e he => by
  have : e.g ∈ H0.map (·.g) := by rw [← hgs]; exact List.mem_map_of_mem he
  obtain ⟨d, hd, h⟩ := List.mem_map.1 this
  exact ⟨d, hd, h⟩

theorem wpIn_num {F : Fence} (hF : F.depth = none) {m m' : Nat} {c : Code} {a : Act} (h : c.wpIn F m P Q a w) : c.wpIn F m' P Q a w := fun b k cs h1 h2 _ =>
  h b k cs h1 h2 (fun d hd => by rw [hF] at hd; cases hd)

def mark (D : Nat) : Deferred := { target := .collected D, args := #[] }
/-- Behind the assignment of a round: what the slots and the blocks are; y: from here on the round's own blocks lie. -/
def AxP (v : World) (La : Nat → List (Nat × Value)) (Ha : Nat → List Ent) (Hi : List Ent) (n : Sz) : Act → World → Prop := fun a W => ∃ y, v.heap.size ≤ y ∧ y ≤ W.heap.size ∧ Fr n (La y) a ∧ St v (Ha y ++ Hi) W
/-- How a round may be left. -/
def RoundQ (y : Nat) (v : World) (C1 : Prop) (H1 : List Ent) (Cr : Prop) (Hr : List Ent) (idb : Nat) (Cb : Prop) (Hb : List Ent) : Exit → Act → World → Prop
  | .normal, _, W => C1 ∧ ∃ X, (∀ e ∈ X, y ≤ e.g) ∧ St v (X ++ H1) W
  | .ret, _, W => Cr ∧ ∃ X, (∀ e ∈ X, y ≤ e.g) ∧ St v (X ++ Hr) W
  | .exit id, _, W => id = idb ∧ Cb ∧ ∃ X, (∀ e ∈ X, y ≤ e.g) ∧ St v (X ++ Hb) W
  | _, _, _ => False
structure MarkAt (w0 W : World) (D : Nat) (gs : List Nat) : Prop where
  new : w0.heap.size ≤ D
  here : W.heap[D]? = some (.deferred (some []))
  ne : ∀ x ∈ gs, x ≠ D
theorem TE.ax {La : Nat → List (Nat × Value)} {Ha : Nat → List Ent} {Hi : List Ent} (y : Nat) (hy : v.heap.size ≤ y) (hy2 : ∀ w, St v H w → y ≤ w.heap.size) (hs : Sub (La y) L) (hH : ∀ w, St v H w → St v (Ha y ++ Hi) w) :
    TE (Exit.then (AxP v La Ha Hi n) (fun _ _ _ => False)) .normal n v L H := fun a w hf hst => ⟨y, hy, hy2 w hst, hf.sub hs, hH w hst⟩
theorem TE.roundN {y : Nat} {C1 Cr Cb : Prop} {H1 Hr Hb : List Ent} {idb : Nat} (hC : C1) (X : List Ent) (hX : ∀ e ∈ X, y ≤ e.g) (hH : ∀ w, St v H w → St v (X ++ H1) w) : TE (RoundQ y v C1 H1 Cr Hr idb Cb Hb) .normal n v L H := fun a w _ hs => ⟨hC, X, hX, hH w hs⟩
theorem TE.roundR {y : Nat} {C1 Cr Cb : Prop} {H1 Hr Hb : List Ent} {idb : Nat} (hC : Cr) (X : List Ent) (hX : ∀ e ∈ X, y ≤ e.g) (hH : ∀ w, St v H w → St v (X ++ Hr) w) : TE (RoundQ y v C1 H1 Cr Hr idb Cb Hb) .ret n v L H := fun a w _ hs => ⟨hC, X, hX, hH w hs⟩
theorem TE.roundB {y : Nat} {C1 Cr Cb : Prop} {H1 Hr Hb : List Ent} {idb : Nat} (hC : Cb) (X : List Ent) (hX : ∀ e ∈ X, y ≤ e.g) (hH : ∀ w, St v H w → St v (X ++ Hb) w) : TE (RoundQ y v C1 H1 Cr Hr idb Cb Hb) (.exit idb) n v L H := fun a w _ hs => ⟨rfl, hC, X, hX, hH w hs⟩

theorem TC.range {g : Operand} {p : Tmp} {assign body : Code} {gf : FuncId} {lb : List Value} {V : Nat → Value} {N c : Nat} {Cap : Nat → Prop}
    (hmd : n.md = .plain) (hds : n.ds = []) (hp : inside n (some p) = true) (hg : ev L g = some (.func (.func gf) #[] lb.toArray)) (hent : Enters P gf)
    (hit : ∀ w, St w0 H w → IterC Fence.wide 2 P gf lb.toArray (fun i => #[V i]) N c Cap w)
    (C : Nat → Prop) (Hi : Nat → List Ent) (HC : List Ent) (La : Nat → Nat → List (Nat × Value)) (Ha : Nat → Nat → List Ent)
    (Cr : Nat → Prop) (Hr : Nat → List Ent) (idb : Nat) (Cb : Nat → Prop) (Hb : Nat → List Ent)
    (hC0 : C 0) (h0 : ∀ w, St w0 H w → St w0 (Hi 0 ++ HC) w)
    (hgs : ∀ i, (Hi i).map (·.g) = (Hi 0).map (·.g)) (hgr : ∀ i, (Hr i).map (·.g) = (Hi 0).map (·.g)) (hgb : ∀ i, (Hb i).map (·.g) = (Hi 0).map (·.g))
    (hcap : ∀ w, St w0 H w → ∀ k, Cap k → k < w.heap.size ∧ ∀ e ∈ Hi 0, e.g ≠ k)
    (hHa : ∀ i y, ∀ e ∈ Ha i y, y ≤ e.g)
    (hassign : ∀ l i v, i < N → C i → St w0 (Hi i ++ HC) v → TC P (Exit.then (AxP v (La i) (Ha i) (Hi i) ⟨n.size, [], .inn (some l)⟩) (fun _ _ _ => False)) ⟨n.size, [], .inn (some l)⟩ v assign ((p, V i) :: L) (Hi i))
    (hbody : ∀ l i y v, i < N → C i → w0.heap.size ≤ y → y ≤ v.heap.size → St w0 (Ha i y ++ (Hi i ++ HC)) v →
      TC P (RoundQ y v (C (i + 1)) (Hi (i + 1)) (Cr (i + 1)) (Hr (i + 1)) idb (Cb (i + 1)) (Hb (i + 1))) ⟨n.size, [], .inn (some l)⟩ v body (La i y) (Ha i y ++ Hi i))
    (hdone : ∀ D W, C N → St w0 (Hi N ++ HC) W → MarkAt w0 W D ((Hi 0 ++ HC).map (·.g)) → TE Q .normal ⟨n.size, [mark D], .plain⟩ W L (Hi N ++ HC))
    (hret : ∀ D W i, i < N → Cr (i + 1) → St w0 (Hr (i + 1) ++ HC) W → MarkAt w0 W D ((Hi 0 ++ HC).map (·.g)) → TE Q .ret ⟨n.size, [mark D], .plain⟩ W L (Hr (i + 1) ++ HC))
    (hbrk : ∀ D W i, i < N → Cb (i + 1) → St w0 (Hb (i + 1) ++ HC) W → MarkAt w0 W D ((Hi 0 ++ HC).map (·.g)) → TE Q (.exit idb) ⟨n.size, [mark D], .plain⟩ W L (Hb (i + 1) ++ HC)) :
    TC P Q n w0 (.rangeFunc g #[p] assign body) L H := by
  intro a w hf hs
  have hall := h0 w hs
  have hltI : ∀ e ∈ Hi 0, e.g < w.heap.size := fun e he => (hall.has e (List.mem_append.2 (.inl he))).lt
  have hltC : ∀ e ∈ HC, e.g < w.heap.size := fun e he => (hall.has e (List.mem_append.2 (.inr he))).lt
  have ltG : ∀ {Hx : List Ent}, Hx.map (·.g) = (Hi 0).map (·.g) → ∀ e ∈ Hx, e.g < w.heap.size := fun hx e he => by
    obtain ⟨d, hd, h⟩ := gs_mem hx e he
    rw [← h]; exact hltI d hd
  have capG : ∀ {Hx : List Ent}, Hx.map (·.g) = (Hi 0).map (·.g) → ∀ k, Cap k → ∀ e ∈ Hx, e.g ≠ k := fun hx k hk e he => by
    obtain ⟨d, hd, h⟩ := gs_mem hx e he
    rw [← h]; exact (hcap w hs k hk).2 d hd
  have apG : ∀ {Hx : List Ent}, Hx.map (·.g) = (Hi 0).map (·.g) → ∀ e ∈ Hx, ∀ d ∈ HC, e.g ≠ d.g := fun hx e he d hd => by
    obtain ⟨e', he', h⟩ := gs_mem hx e he
    rw [← h]; exact (List.pairwise_append.1 hall.apart).2.2 e' he' d hd
  have hsz := hs.size
  rw [hmd]
  have fin : ∀ {W : World}, W.heap[w.heap.size]? = some (.deferred (some [])) → MarkAt w0 W w.heap.size ((Hi 0 ++ HC).map (·.g)) := fun hD => ⟨hsz, hD, fun x hx => by
    obtain ⟨e, he, rfl⟩ := List.mem_map.1 hx
    rcases List.mem_append.1 he with he | he
    · have := hltI e he; omega
    · have := hltC e he; omega⟩
  have frM : ∀ D, Fr ⟨n.size, [mark D], .plain⟩ L { a with defers := { target := .collected D, args := #[] } :: a.defers } := fun D => ⟨by show _ :: a.defers = _; rw [hf.1, hds]; rfl, hf.2⟩
  refine wpIn_wide.1 (wpIn_rangeFunc_it (F := Fence.wide) (n := 3) (w0 := w) rfl (by omega) (gf := gf) (lb := lb.toArray) (hf.eval hg) trivial (fun args w => run_call hent args w) (hit w hs) (Below.refl _ _) (fun k hk => (hcap w hs k hk).1) (fun _ => rfl)
    (fun i W => C i ∧ St w0 (Hi i ++ HC) W)
    (fun j i W => match j with
      | .ret => Cr i ∧ St w0 (Hr i ++ HC) W
      | .exit id => id = idb ∧ Cb i ∧ St w0 (Hb i ++ HC) W
      | _ => False)
    (fun i a W => ∃ y, w.heap.size + 2 + c ≤ y ∧ y ≤ W.heap.size ∧ Fr ⟨n.size, [], .plain⟩ (La i y) a ∧ C i ∧ St w0 (Ha i y ++ (Hi i ++ HC)) W)
    ?hI ?hIx ?hAx ⟨hC0, hall⟩ ?assign ?body ?done ?stop)
  case hI =>
    rintro i A B ⟨h1, h2⟩ hb
    refine ⟨h1, h2.besides hb (fun e he => ?_) hsz⟩
    rcases List.mem_append.1 he with he | he
    · exact .inl (ltG (hgs i) e he)
    · exact .inl (hltC e he)
  case hIx =>
    rintro j i A B h hb
    have step : ∀ {Hx : List Ent}, Hx.map (·.g) = (Hi 0).map (·.g) → St w0 (Hx ++ HC) A → St w0 (Hx ++ HC) B := fun hx h2 => h2.besides hb (fun e he => by
      rcases List.mem_append.1 he with he | he
      · exact .inl (ltG hx e he)
      · exact .inl (hltC e he)) hsz
    cases j with
    | ret => exact ⟨h.1, step (hgr i) h.2⟩
    | exit id => exact ⟨h.1, h.2.1, step (hgb i) h.2.2⟩
    | _ => exact h.elim
  case hAx =>
    rintro i a' A B ⟨y, hy, hyA, hfr, hC, h2⟩ hb
    refine ⟨y, hy, Nat.le_trans hyA hb.size, hfr, hC, h2.besides hb (fun e he => ?_) hsz⟩
    rcases List.mem_append.1 he with he | he
    · exact .inr (Nat.le_trans hy (hHa i y e he))
    · rcases List.mem_append.1 he with he | he
      · exact .inl (ltG (hgs i) e he)
      · exact .inl (hltC e he)
  case assign =>
    rintro l i W hiN ⟨hC, hSt⟩ hWs
    have hfr : Fr ⟨n.size, [], .inn (some l)⟩ ((p, V i) :: L) { tmps := ((#[p] : Array Tmp).zip #[V i]).foldl (fun t (p, v) => t.setIfInBounds p v) a.tmps, defers := [] } := by
      have h := hf.put (some p) (V i) hp
      refine ⟨rfl, ?_, ?_⟩
      · simpa [Act.put] using h.2.1
      · have h3 := h.2.2
        unfold Proofs.Ytdllgfkcakhoeaa.put at h3
        simpa [Act.put] using h3
    have h := hassign l i W hiN hC hSt _ W hfr hSt.self1
    refine wpIn_mono (wpIn_num (F := Fence.wide.inRound l) rfl (m := 2) h) ?_
    intro e a1 W1 hq
    cases e with
    | normal =>
      obtain ⟨y, hy, hyW, hfr1, hst⟩ := hq
      refine ⟨⟨y, by omega, hyW, ⟨hfr1.1, hfr1.2⟩, hC, ?_⟩, hst.size, ?_⟩
      · have := St.over hSt hst (fun e he d hd => by
          rcases List.mem_append.1 he with he | he
          · have h1 := hHa i y e he
            have h2 := hltC d hd
            omega
          · exact apG (hgs i) e he d hd) (fun d hd => .inr ⟨d, List.mem_append.2 (.inr hd), rfl⟩)
        rw [List.append_assoc] at this
        exact this
      · intro k hk hkW
        refine hst.old k hkW fun e he => ?_
        rcases List.mem_append.1 he with he | he
        · have h1 := hHa i y e he
          omega
        · rcases hk with hk | hk
          · have := ltG (hgs i) e he; omega
          · exact capG (hgs i) k hk e he
    | _ => exact hq.elim
  case body =>
    rintro l i a1 W hiN ⟨y, hy, hyW, hfr, hC, hSt⟩ hWs
    have hSt' : St w0 ((Ha i y ++ Hi i) ++ HC) W := by rw [List.append_assoc]; exact hSt
    have h := hbody l i y W hiN hC (by omega) hyW hSt a1 W ⟨hfr.1, hfr.2⟩ hSt'.self1
    refine wpIn_mono (wpIn_num (F := Fence.wide.inRound l) rfl (m := 2) h) ?_
    have keep : ∀ {Hx X : List Ent} {W' : World}, Hx.map (·.g) = (Hi 0).map (·.g) → (∀ e ∈ X, y ≤ e.g) → St W (X ++ Hx) W' →
        Keeps (fun k => (w.heap.size ≤ k ∧ k < w.heap.size + 2 + c) ∨ Cap k) W W' ∧ St w0 (Hx ++ HC) W' := fun {Hx X W'} hx hX hst => by
      refine ⟨⟨hst.size, fun k hk hkW => hst.old k hkW fun e he => ?_⟩, ?_⟩
      · rcases List.mem_append.1 he with he | he
        · have h1 := hX e he
          rcases hk with hk | hk
          · omega
          · have := (hcap w hs k hk).1; omega
        · rcases hk with hk | hk
          · have := ltG hx e he; omega
          · exact capG hx k hk e he
      · have := St.over hSt' hst (fun e he d hd => by
          rcases List.mem_append.1 he with he | he
          · have h1 := hX e he
            have h2 := hltC d hd
            omega
          · exact apG hx e he d hd) (fun d hd => by
          rcases List.mem_append.1 hd with hd | hd
          · have := hHa i y d hd
            exact .inl (by omega)
          · have hdm : d.g ∈ Hx.map (·.g) := by rw [hx, ← hgs i]; exact List.mem_map_of_mem hd
            obtain ⟨e, he, h⟩ := List.mem_map.1 hdm
            exact .inr ⟨e, List.mem_append.2 (.inr he), h⟩)
        rw [List.append_assoc] at this
        exact St.dropAll X this fun e he => by have := hX e he; omega
    intro e a2 W2 hq
    cases e with
    | normal =>
      obtain ⟨h1, X, hX, h2⟩ := hq
      have ⟨k1, k2⟩ := keep (hgs (i + 1)) hX h2
      exact ⟨k1, h1, k2⟩
    | ret =>
      obtain ⟨h1, X, hX, h2⟩ := hq
      have ⟨k1, k2⟩ := keep (hgr (i + 1)) hX h2
      exact ⟨k1, h1, k2⟩
    | exit id =>
      obtain ⟨h0, h1, X, hX, h2⟩ := hq
      have ⟨k1, k2⟩ := keep (hgb (i + 1)) hX h2
      exact ⟨k1, h0, h1, k2⟩
    | _ => exact hq.elim
  case done =>
    rintro W ⟨h1, h2⟩ hD
    exact hdone _ W h1 h2 (fin hD) _ W (frM _) h2.self
  case stop =>
    rintro j i W hiN h hD
    cases j with
    | ret => exact wpIn_ret (hret _ W i hiN h.1 h.2 (fin hD) _ W (frM _) h.2.self)
    | exit id =>
      obtain ⟨rfl, h1, h2⟩ := h
      exact wpIn_exit (hbrk _ W i hiN h1 h2 (fin hD) _ W (frM _) h2.self)
    | _ => exact h.elim

/-! ### A function that holds such a statement -/
theorem calls_fromM {f : FuncId} {fn : Func} {c : Code} {args : List Value} {R : Ending → World → Prop} {N : Nat} (hf : P.funcs[f]? = some fn) (hb : fn.body = some c) (hN : fn.ntmps = N) (hl : args.length ≤ N)
    (h : TC P (bodyPostM Fence.wide 2 P fn R) ⟨N, [], .plain⟩ w c (args.zipIdx.map fun x => (x.2, x.1)) []) : Calls P f args.toArray w R := by
  subst hN
  exact callsIn_wide.1 (callsIn_of_wp_marks (n := 2) hf hb trivial (wpIn_wide.2 (h _ w (fr_args hl) (St.refl w))) rfl)
theorem callsIn_from {f : FuncId} {fn : Func} {c : Code} {args : List Value} {R : Ending → World → Prop} {N : Nat} (hf : P.funcs[f]? = some fn) (hb : fn.body = some c) (hN : fn.ntmps = N) (hl : args.length ≤ N)
    (h : TC P (bodyPost P fn R) ⟨N, [], .inn none⟩ w c (args.zipIdx.map fun x => (x.2, x.1)) []) : CallsIn Fence.wide 2 P f args.toArray w R := by
  subst hN
  exact callsIn_of_wp hf hb trivial (h _ w (fr_args hl) (St.refl w)) rfl
theorem TE.markR {fn : Func} {R : Ending → World → Prop} {D : Nat} {H0 H : List Ent} {gs : List Nat} (hm : MarkAt w0 W D gs) (hW : St w0 H0 W) (hgs : ∀ e ∈ H0, w0.heap.size ≤ e.g) (hov : ∀ e ∈ H, W.heap.size ≤ e.g ∨ e.g ∈ gs)
    (h : TE (bodyPost P fn R) ex ⟨n.size, [], .plain⟩ w0 L H) (hex : ex = .ret ∨ ex = .normal) : TE (bodyPostM Fence.wide 2 P fn R) ex ⟨n.size, [mark D], .plain⟩ W L H := by
  intro a w hf hs
  have hDW : D < W.heap.size := (Array.getElem?_eq_some_iff.1 hm.here).1
  have hne : ∀ e ∈ H, e.g ≠ D := fun e he => by
    rcases hov e he with h1 | h1
    · omega
    · exact hm.ne _ h1
  have hD : w.heap[D]? = some (.deferred (some [])) := (hs.old D hDW hne).trans hm.here
  have h1 : St w0 H w := by
    have := St.over (A := H0) (HC := []) (by rw [List.append_nil]; exact hW) hs (fun _ _ d hd => by cases hd) (fun d hd => .inl (hgs d hd))
    rwa [List.append_nil] at this
  have h2 : St w0 H (w.putObj D (.deferred none)) := ⟨h1.os, h1.tape, h1.output, by simpa using h1.size, fun e he => (h1.has e he).of_block (World.putObj_heap_other (hne e he)),
    fun b hb hneb => (World.putObj_heap_other (by have := hm.new; omega)).trans (h1.old b hb hneb), h1.apart⟩
  have h3 := h { a with defers := [] } _ ⟨rfl, hf.2⟩ h2
  have key : LeavesInM Fence.wide 2 P fn a.tmps R a.defers .returning w := by
    rw [hf.1]
    refine ⟨by simp, .inl ⟨D, _, rfl, run_takeDeferred hD, ?_⟩⟩
    rcases hex with rfl | rfl
    · exact h3.2
    · exact h3.2
  rcases hex with rfl | rfl
  · exact key
  · exact key
theorem TE.markNil {fn : Func} {R : Ending → World → Prop} (hds : n.ds = []) (h : TE (bodyPost P fn R) ex n w0 L H) (hex : ex = .ret ∨ ex = .normal) : TE (bodyPostM Fence.wide 2 P fn R) ex n w0 L H := by
  intro a w hf hs
  have h3 := h a w hf hs
  have key : LeavesInM Fence.wide 2 P fn a.tmps R a.defers .returning w := by
    rw [hf.1, hds]
    rcases hex with rfl | rfl
    · exact h3.2
    · exact h3.2
  rcases hex with rfl | rfl
  · exact key
  · exact key

/-! ### An iterator -/
theorem TL.yield {l t : Nat} {xs : List Operand} {vs : List Value} {ts : Array TypeId} {T U : World → Prop} (hmd : n.md = .inn none) (hg : Wants n ops L o) (hi : inside n o.dst = true)
    (ho : o.op = .call { callee := .value (.tmp t), args := xs.toArray, argTypes := ts }) (ht : look L t = some (.func (.yield l) #[] #[])) (hx : evs L xs = some vs)
    (hy : ∀ w, St w0 H w → YieldAt Fence.wide 1 P l vs.toArray w fun e w' => (e = .returned (.bool true) ∧ T w') ∨ (e = .returned (.bool false) ∧ U w'))
    (h1 : ∀ v, T v → TL P ops Q n v rest (put L o.dst (.bool true)) []) (h2 : ∀ v, U v → TL P ops Q n v rest (put L o.dst (.bool false)) []) : TL P ops Q n w0 (o :: rest) L H := by
  intro a w hf hs
  obtain ⟨fn, tmps, assign, body, hyl, hr⟩ := hy w hs
  have h1' : ∀ v, T v → wpL n.md P ops Q rest (a.put o.dst (.bool true)) v := fun v hv => h1 v hv _ v (hf.put o.dst _ hi) (St.refl v)
  have h2' : ∀ v, U v → wpL n.md P ops Q rest (a.put o.dst (.bool false)) v := fun v hv => h2 v hv _ v (hf.put o.dst _ hi) (St.refl v)
  rw [hmd] at h1' h2' ⊢
  have hm := hf.evals hx
  have hev : a.eval (.tmp t) = .func (.yield l) #[] #[] := hf.eval (x := .tmp t) ht
  have hrun : (execOp a.eval o).run P w = .ok (.round l fn tmps assign body) w := by
    simp only [execOp, ho, resolve, hev, Deferred.ofValue, Sem.run_bind, Sem.run_pure, Result.andThen_ok, List.map_toArray, hm, invoke]
    simpa using hyl
  refine wpListIn_step fun K hK => ?_
  rw [if_pos (hg a hf)]
  refine ⟨fun _ _ => trivial, ?_⟩
  have hsem : (o.semAt (wideAt none).round a.eval).run P w = .ok (.round l fn tmps assign body) w := hrun
  rw [hsem]
  refine ⟨fun hd => by simp [wideAt, Fence.wide] at hd, ?_⟩
  refine RoundIn.mono (R := fun e w' => (e = .returned (.bool true) ∧ T w') ∨ (e = .returned (.bool false) ∧ U w')) ?_ ?_
  · exact hr
  · rintro e w' (⟨rfl, hT⟩ | ⟨rfl, hU⟩)
    · exact hK _ _ (h1' w' hT)
    · exact hK _ _ (h2' w' hU)
/-- A loop whose rounds begin in worlds of their own. -/
def BackW {ι : Type} (n : Sz) (Wi : ι → World) (Li : ι → List (Nat × Value)) (Hi : ι → List Ent) (μ : ι → Nat) (C : ι → Prop) (m : Nat) (a : Act) (w : World) : Prop :=
  ∃ i, μ i < m ∧ C i ∧ Fr n (Li i) a ∧ St (Wi i) (Hi i) w
theorem TE.backW {ι : Type} {Wi : ι → World} {Li : ι → List (Nat × Value)} {Hi : ι → List Ent} {μ : ι → Nat} {C : ι → Prop} {m : Nat} (i : ι) (hμ : μ i < m) (hC : C i) (hs : Sub (Li i) L) (hH : ∀ w, St w0 H w → St (Wi i) (Hi i) w) :
    TE (Exit.then (BackW n Wi Li Hi μ C m) Q) .normal n w0 L H := fun a w hf hst => ⟨i, hμ, hC, hf.sub hs, hH w hst⟩
theorem TC.loopW {ι : Type} (Wi : ι → World) (Li : ι → List (Nat × Value)) (Hi : ι → List Ent) (μ : ι → Nat) (C : ι → Prop) (i0 : ι) {c : Code} (hC : C i0) (hs : Sub (Li i0) L) (hH : ∀ w, St w0 H w → St (Wi i0) (Hi i0) w)
    (round : ∀ i, C i → TC P (Exit.then (BackW n Wi Li Hi μ C (μ i)) Q) n (Wi i) c (Li i) (Hi i)) : TC P Q n w0 (.loop c) L H := by
  intro a w hf hst
  let p : Act → World → Nat → Prop := fun a w m => ∃ i, μ i = m ∧ C i ∧ Fr n (Li i) a ∧ St (Wi i) (Hi i) w
  let M : Act → World → Nat := fun a w => leastOf (p a w)
  have hM : ∀ a w i, C i → Fr n (Li i) a → St (Wi i) (Hi i) w → M a w ≤ μ i := fun a w i h1 h2 h3 => (leastOf_spec (p := p a w) ⟨i, rfl, h1, h2, h3⟩).2 _ ⟨i, rfl, h1, h2, h3⟩
  refine wpn_loop (fun a w => ∃ i, C i ∧ Fr n (Li i) a ∧ St (Wi i) (Hi i) w) M ⟨i0, hC, hf.sub hs, hH w hst⟩ ?_
  rintro a w ⟨i, h1, h2, h3⟩
  obtain ⟨i', e', c', f', s'⟩ := (leastOf_spec (p := p a w) ⟨i, rfl, h1, h2, h3⟩).1
  have hMe : M a w = μ i' := e'.symm
  refine wpn_mono (round i' c' a w f' s') ?_
  intro e a2 w2 hq
  cases e with
  | normal =>
    obtain ⟨j, hj, hCj, hfj, hsj⟩ := hq
    refine ⟨⟨j, hCj, hfj, hsj⟩, ?_⟩
    have := hM a2 w2 j hCj hfj hsj
    omega
  | _ => exact hq

/-! ### Function values -/
theorem run_enterF {f : FuncId} {t : Nat} {lb : List Value} {xs : List Operand} {ts : Array TypeId} {vs : List Value} {a : Act} {w : World} (h : Enters P f) (ho : o.op = .call { callee := .value (.tmp t), args := xs.toArray, argTypes := ts }) (hf : Fr n L a)
    (ht : look L t = some (.func (.func f) #[] lb.toArray)) (hx : evs L xs = some vs) : (execOp a.eval o).run P w = .ok (.enter f (vs ++ lb).toArray) w := by
  have hm := hf.evals hx
  have hev : a.eval (.tmp t) = .func (.func f) #[] lb.toArray := hf.eval (x := .tmp t) ht
  simp only [execOp, ho, resolve, hev, Deferred.ofValue, Sem.run_bind, Sem.run_pure, Result.andThen_ok, List.map_toArray, hm, invoke]
  simp [run_call h]
theorem TL.callF {ι : Type} {f : FuncId} {t : Nat} {lb : List Value} {xs : List Operand} {ts : Array TypeId} {vs : List Value} {V : ι → Value} {R : ι → Prop} {H' : ι → List Ent} (hg : Wants n ops L o) (hi : inside n o.dst = true) (h : Enters P f)
    (ho : o.op = .call { callee := .value (.tmp t), args := xs.toArray, argTypes := ts }) (ht : look L t = some (.func (.func f) #[] lb.toArray)) (hx : evs L xs = some vs)
    (hc : ∀ w, St w0 H w → Calls P f (vs ++ lb).toArray w fun e w' => ∃ i, e = .returned (V i) ∧ R i ∧ St w0 (H' i) w')
    (hr : ∀ i, R i → TL P ops Q n w0 rest (put L o.dst (V i)) (H' i)) : TL P ops Q n w0 (o :: rest) L H :=
  fun a w hf hs => wpL_wants hg.nd (hg a hf) fun K hK => by
    unfold Oper.wp; rw [run_enterF h ho hf ht hx]
    refine (hc w hs).mono ?_
    rintro e w' ⟨i, rfl, hR, hs'⟩
    exact hK _ _ (hr i hR _ _ (hf.put o.dst _ hi) hs')
theorem TL.call0F {f : FuncId} {t : Nat} {lb : List Value} {xs : List Operand} {ts : Array TypeId} {vs : List Value} {u : Value} (hg : Wants n ops L o) (hi : inside n o.dst = true) (h : Enters P f)
    (ho : o.op = .call { callee := .value (.tmp t), args := xs.toArray, argTypes := ts }) (ht : look L t = some (.func (.func f) #[] lb.toArray)) (hx : evs L xs = some vs)
    (hc : ∀ w, St w0 H w → Calls P f (vs ++ lb).toArray w fun e w' => e = .returned u ∧ St w [] w')
    (hr : TL P ops Q n w0 rest (put L o.dst u) H) : TL P ops Q n w0 (o :: rest) L H :=
  TL.callF (ι := Unit) (V := fun _ => u) (R := fun _ => True) (H' := fun _ => H) hg hi h ho ht hx (fun w hs => (hc w hs).mono fun e w' ⟨he, hw⟩ => ⟨(), he, trivial, hs.call' hw⟩) fun _ _ => hr
theorem Gets.makeFunc {fn : Fn} {xs ys : List Operand} {us vs : List Value} (ho : o.op = .makeFunc fn xs.toArray ys.toArray) (hx : evs L xs = some us) (hy : evs L ys = some vs) : Gets P n w0 o L H (.func fn us.toArray vs.toArray) := fun a w hf hs => by
  have h1 := hf.evals hx
  have h2 := hf.evals hy
  simp only [execOp, ho, List.map_toArray, h1, h2]
  rfl
end
end Go.Proofs.Ytdllgfkcakhoeaa
