/-
 PatchBytes: the frame.
-/
import Derived.Test.YtegddcklbmonfaaGreatDoorYBytesPb
import Derived.Test.YtegddcklbmonfaaGreatDoorYBytesPc
import Derived.Test.YtegddcklbmonfaaGreatDoorYBytesPd
import Derived.HandedShaped
import Derived.Shelf.Vars
import Derived.Test.YtegddcklbmonfaaGreatDoorTie
import Derived.Test.YtegddcklbmonfaaGreatDoorCards
import Derived.SevenTiedAt
/-
 The wrap.
-/
namespace Go.Proofs.YtegddcklbmonfaaGreatDoor
set_option maxRecDepth 100000
set_option maxHeartbeats 2000000
open Go.Value (int slice)
set_option linter.unusedVariables false
open Go Go.RowKit Go.ChangeShapes Go.WideShapes Go.ChangeAt Go.Joins Go.Deep
theorem returnsInHanded_both {H : Type} {enc : TypeId × Value → H} {a : Assume} {C : Checked} {os : Os} {f : FuncId} {fn : Func} {s : ChangeSpec} {conds : List PathCond} {apart fresh handsOn again : Bool} {X : World → Array Value → Prop}
  (hX : ∀ (w w' : World) (args : Array Value), w.heap = w'.heap → X w args → X w' args)
  (own : ownKnob C.prog.godebug = none) (started : os.Started) (noInit : C.prog.inits.idxOf? f = none) (hfn : C.prog.funcs[f]? = some fn)
  (witness : ∃ (w : World) (tape : Tape) (i : Input), w.os = os ∧ (w.forCall tape i).Shaped C.prog ∧ i.vars = [] ∧ Input.okWide C.prog (w.forCall tape i) .any w.heap.size f i ∧
   ((s.pre enc C.prog fn conds apart (w.forCall tape i).memory i.args ∧ X (w.forCall tape i).memory i.args) ∧ sizedMet enc C.prog fn (OpenSpec.ofChange s) apart (w.forCall tape i).memory i.args) ∧ a.holds C.prog (lone (Frame.enter C.prog f i.args .normal) [] (w.forCall tape i)))
  (contract : ∀ (W : World) (base : Nat) (args : Array Value) (ds gs : List (DataW H)) (before : List MemPlace),
   (∀ (j : Nat) t v, fn.params[j]? = some t → args[j]? = some v → Value.okWide C.prog W .any base t v) →
   DataW.Whole enc C.prog fn.params.toList s.vars apart W args.toList ds gs before →
   (DataW.weightsEach C.prog (fn.params.toList ++ s.plain.varTypes C.prog) (ds ++ gs)).all (· ≤ reachBytes) = true → X W args → W.ShapedOpen C.prog →
   Calls C.prog f args W fun e W' => ∃ v, e = .returned v ∧ s.post enc C.prog fn apart fresh handsOn again W args v W') :
  ReturnsInHanded a C os f .any (fun w args => (s.pre enc C.prog fn conds apart w args ∧ X w args) ∧ sizedMet enc C.prog fn (OpenSpec.ofChange s) apart w args) (s.post enc C.prog fn apart fresh handsOn again) := by
 refine returnsInHanded_of_calls own started noInit witness ?_
 intro w tape i _ hsh _ hok hpre _
 obtain ⟨_, _, _, fn', hfn', _, _, _, _, hval⟩ := hok
 obtain rfl : fn' = fn := Option.some.inj (hfn'.symm.trans hfn)
 obtain ⟨⟨⟨ds, gs, before, hw, _⟩, hx⟩, hz⟩ := hpre
 refine (contract (w.forCall tape i) w.heap.size i.args ds gs before hval (DataW.Whole.of_heap (w' := w.forCall tape i) (by rfl) hw) (hz.weights hw) (hX _ _ _ (by rfl) hx) hsh).mono fun e W' ⟨v, he, hp⟩ => ?_
 subst he
 exact ChangeSpec.post_blind hp
theorem maxC_of {W : World} (h : W.ShapedOpen Tryz.prog) : MaxC W := by
 obtain ⟨m, hm⟩ := cell_of_shapedOpen_int (g := 1) (t := 3) (zero := #[.int .i64 0]) (k := .i64) h (of_decide_eq_true (by kernel_rfl)) (by kernel_rfl) rfl (by kernel_rfl) (by kernel_rfl) Tryz.underlying3
 exact ⟨World.block_lt_of_cell? W _ hm, m, hm⟩
/-
 The commands that the program makes, beside the greedy ones; commands in memory of the call's own, as values.
-/
set_option linter.unusedSimpArgs false
open Go Go.RowKit
def litP (off : Nat) (P : List Int) : List PC := if P = [] then [] else [(2, (off : Int), 0, 0, P)]
theorem litP_nil (off : Nat) : litP off [] = [] := if_pos rfl
theorem litP_some {off : Nat} {P : List Int} (h : P ≠ []) : litP off P = [(2, (off : Int), 0, 0, P)] := if_neg h
theorem litP_len (off : Nat) (P : List Int) : (litP off P).length ≤ 1 := by unfold litP; split <;> simp
def noLit (ps : List PC) : Prop := ∀ c, ps.getLast? = some c → ¬ c.1 = 2
theorem noLit_nil : noLit [] := fun c h => by cases h
theorem noLit_copy (ps : List PC) (a b c : Int) (d : List Int) : noLit (ps ++ [(1, a, b, c, d)]) := fun x h => by
 rw [List.getLast?_append] at h
 simp at h; subst h; show ¬ (1 : Int) = 2; decide
theorem push_lit {ps : List PC} {e : Nat} {seg : List Int} {x : Int} (h : noLit ps) : pushL (ps ++ litP e seg) (e + seg.length) x = ps ++ litP e (seg ++ [x]) := by
 rw [litP_some (P := seg ++ [x]) (by simp)]
 by_cases hs : seg = []
 ·subst hs
  rw [litP_nil, List.append_nil]
  unfold pushL
  cases hl : ps.getLast? with
  | none => rfl
  | some c => simp only [if_neg (h c hl)]; rfl
 ·rw [litP_some hs]
  unfold pushL
  rw [List.getLast?_append]
  simp [addLit]
structure GI (old new : List Int) (k : Int) (i e : Nat) (ps : List PC) : Prop where
 le : e ≤ new.length
 nl : noLit ps
 gr : greedy old new k (max e i) (ps ++ litP e ((new.take (max e i)).drop e))
theorem GI.zero (old new : List Int) (k : Int) : GI old new k 0 0 [] := ⟨Nat.zero_le _, noLit_nil, by
 show greedy old new k 0 ([] ++ litP 0 ((new.take 0).drop 0))
 rw [List.take_zero, List.drop_nil, litP_nil]
 exact greedy_zero old new k⟩
theorem GI.skip {old new : List Int} {k : Int} {i e : Nat} {ps : List PC} (h : GI old new k i e ps) (hi : i < e) : GI old new k (i + 1) e ps := by
 obtain ⟨h1, h2, h3⟩ := h
 rw [show max e i = e by omega] at h3
 exact ⟨h1, h2, by rw [show max e (i + 1) = e by omega]; exact h3⟩
theorem seg_snoc {new : List Int} {e i : Nat} (h1 : e ≤ i) (h2 : i < new.length) : (new.take (i + 1)).drop e = (new.take i).drop e ++ [new.getD i 0] := by
 rw [List.take_succ_eq_append_getElem h2, getD_in h2, List.drop_append_of_le_length (by rw [List.length_take]; omega)]
theorem seg_len {new : List Int} {e i : Nat} (h1 : e ≤ i) (h2 : i ≤ new.length) : ((new.take i).drop e).length = i - e := by
 rw [List.length_drop, List.length_take]; omega
theorem GI.lit {old new : List Int} {k : Int} {i e : Nat} {ps : List PC} (h : GI old new k i e ps) (hi : e ≤ i) (hl : i < new.length) (hm : matchI old (new.drop i) k = none) : GI old new k (i + 1) e ps := by
 obtain ⟨h1, h2, h3⟩ := h
 rw [show max e i = i by omega] at h3
 have h4 := greedy_lit h3 hl hm
 have h5 := push_lit (e := e) (seg := (new.take i).drop e) (x := new.getD i 0) h2
 rw [seg_len hi (by omega), show e + (i - e) = i by omega, ← seg_snoc hi hl] at h5
 rw [h5] at h4
 exact ⟨h1, h2, by rw [show max e (i + 1) = i + 1 by omega]; exact h4⟩
theorem GI.copy {old new : List Int} {k : Int} {i e q : Nat} {ps : List PC} (h : GI old new k i e ps) (hi : e ≤ i) (hl : i < new.length) (hm : matchI old (new.drop i) k = some q) :
  GI old new k (i + 1) (i + eqN (old.drop q) (new.drop i)) (ps ++ litP e ((new.take i).drop e) ++ [(1, (i : Int), (q : Int), (eqN (old.drop q) (new.drop i) : Int), [])]) := by
 obtain ⟨h1, h2, h3⟩ := h
 rw [show max e i = i by omega] at h3
 have h4 := greedy_copy h3 hl hm
 have h5 := matchI_spec hm
 rw [List.length_drop] at h5
 refine ⟨by omega, noLit_copy _ _ _ _ _, ?_⟩
 rw [show max (i + eqN (old.drop q) (new.drop i)) (i + 1) = i + eqN (old.drop q) (new.drop i) by omega]
 have e1 : (new.take (i + eqN (old.drop q) (new.drop i))).drop (i + eqN (old.drop q) (new.drop i)) = [] := List.drop_eq_nil_of_le (by rw [List.length_take]; omega)
 rw [e1, litP_nil, List.append_nil]
 exact h4
theorem GI.done {old new : List Int} {k : Int} : ∀ (d i e : Nat) (ps : List PC), new.length ≤ i + d → GI old new k i e ps → (∀ p, i ≤ p → p < new.length → matchI old (new.drop p) k = none) → ps ++ litP e (new.drop e) = cmdsL old new k
 | 0, i, e, ps, hd, h, hm => by
  obtain ⟨h1, h2, h3⟩ := h
  have h4 := h3.1
  have e1 : max e i = new.length := by omega
  rw [e1, List.take_length] at h3
  exact greedy_end h3 (Nat.le_refl _)
 | d + 1, i, e, ps, hd, h, hm => by
  by_cases hi : i < e
  ·exact GI.done d (i + 1) e ps (by omega) (h.skip hi) (fun p hp => hm p (by omega))
  ·by_cases hl : i < new.length
   ·exact GI.done d (i + 1) e ps (by omega) (h.lit (by omega) hl (hm i (Nat.le_refl _) hl)) (fun p hp => hm p (by omega))
   ·exact GI.done 0 i e ps (by omega) h hm
theorem GI.end_ {old new : List Int} {k : Int} {e : Nat} {ps : List PC} (h : GI old new k (cntH new.length k) e ps) : ps ++ litP e (new.drop e) = cmdsL old new k :=
 GI.done new.length _ e ps (by omega) h fun p hp hl => matchI_no (by
  by_cases hk : k < 1
  ·exact .inl hk
  ·right
   rw [List.length_drop]
   by_cases h2 : (new.length : Int) < k
   ·omega
   ·obtain ⟨s, rfl⟩ : ∃ s : Nat, k = s := ⟨k.toNat, by omega⟩
    rw [cntH_yes (by omega) (by omega)] at hp
    omega)
def OwnL (N : Nat) (t : TypeId) (v : Value) (ps : List PC) (He : List Ent) : Prop :=
 ∃ (Cs : List CV) (Hs Hd : List Ent), Cs.map valC = ps ∧ (∀ x ∈ Cs, x.m = x.B.length) ∧ He = Hs ++ Hd ∧ OwnS N t 5 v Cs.length (flatC Cs) Hs ∧ OwnB N Cs Hd
theorem OwnL.nil (N : Nat) (t : TypeId) : OwnL N t (.slice none 0 0) [] [] := ⟨[], [], [], rfl, (fun x h => by cases h), rfl, OwnS.nil N t 5, OwnB.nil N⟩
theorem OwnL.new {N : Nat} {t : TypeId} {v : Value} {ps : List PC} {He : List Ent} (h : OwnL N t v ps He) : ∀ e ∈ He, N ≤ e.g := by
 obtain ⟨Cs, Hs, Hd, _, _, rfl, h1, h2⟩ := h
 intro e he
 rcases List.mem_append.1 he with he | he
 ·exact h1.new e he
 ·exact h2.1 e he
theorem OwnL.mono {N N' : Nat} {t : TypeId} {v : Value} {ps : List PC} {He : List Ent} (h : OwnL N' t v ps He) (hN : N ≤ N') : OwnL N t v ps He := by
 obtain ⟨Cs, Hs, Hd, h1, h2, h3, h4, h5⟩ := h
 exact ⟨Cs, Hs, Hd, h1, h2, h3, h4.mono hN, ⟨fun e he => Nat.le_trans hN (h5.1 e he), h5.2⟩⟩
theorem OwnL.form {N : Nat} {t : TypeId} {v : Value} {ps : List PC} {He : List Ent} (h : OwnL N t v ps He) : ∃ A c, v = .slice A ps.length c ∧ ps.length ≤ c ∧ c ≤ 9223372036854775807 := by
 obtain ⟨Cs, Hs, Hd, h1, h2, h3, h4, h5⟩ := h
 obtain ⟨A, c, e1, e2, e3⟩ := h4.form
 have hl : Cs.length = ps.length := by rw [← h1, List.length_map]
 rw [hl] at e1 e2
 exact ⟨A, c, e1, e2, e3⟩
theorem OwnB.addC {N : Nat} {Fs : List CV} {He : List Ent} (h : OwnB N Fs He) {t f l : Int} (hn : NumC ⟨1, t, f, l, none, 0, 0, []⟩) : OwnB N (Fs ++ [⟨1, t, f, l, none, 0, 0, []⟩]) He :=
 ⟨h.1, nums_add h.2.1 hn, fun w hl => dat_add (h.2.2 w hl) ⟨src_no, bytes_no⟩⟩
theorem OwnB.addL {N g tt tot m : Nat} {Fs : List CV} {He : List Ent} (h : OwnB N Fs He) {t : Int} {P : List Int} (hg : N ≤ g) (hP : P.length = m) (hb : Bytes P) {c : Nat} (hn : NumC ⟨2, t, 0, 0, some ⟨g, 0, none⟩, m, c, P⟩) :
  OwnB N (Fs ++ [⟨2, t, 0, 0, some ⟨g, 0, none⟩, m, c, P⟩]) (He ++ [⟨g, tt, P.map (int .u8), tot⟩]) :=
 ⟨fun e he => by
  rcases List.mem_append.1 he with he | he
  ·exact h.1 e he
  ·rw [List.mem_singleton.1 he]; exact hg, nums_add h.2.1 hn, fun w hl => dat_add (h.2.2 w fun e he => hl e (List.mem_append.2 (.inl he))) ⟨src_ent (hl _ (List.mem_append.2 (.inr List.mem_cons_self))) hP, hb⟩⟩
theorem OwnL.ownD {N : Nat} {t : TypeId} {A : Option Addr} {m c : Nat} {ps : List PC} {He : List Ent} (h : OwnL N t (.slice A m c) ps He) : ∃ Cs : List CV, Cs.map valC = ps ∧ (∀ x ∈ Cs, x.m = x.B.length) ∧ m = ps.length ∧ OwnD N A m Cs He := by
 obtain ⟨Cs, Hs, Hd, h1, h2, rfl, h4, h5⟩ := h
 have hl : Cs.length = ps.length := by rw [← h1, List.length_map]
 have hm : m = Cs.length := by
  rcases h4.2 with ⟨e1, e2, _⟩ | ⟨g, cap, e1, _⟩
  ·cases e1; exact e2.symm
  ·cases e1; rfl
 subst hm
 refine ⟨Cs, h1, h2, hl, fun e he => ?_, h5.2.1, ?_, fun w hw => ⟨h4.srcC (fun e he => hw e (List.mem_append.2 (.inl he))), h5.2.2 w (fun e he => hw e (List.mem_append.2 (.inr he)))⟩⟩
 ·rcases List.mem_append.1 he with he | he
  ·exact h4.new e he
  ·exact h5.1 e he
 ·rcases h4.2 with ⟨e1, e2, _⟩ | ⟨g, cap, e1, _⟩
  ·exact .inl e2
  ·cases e1; exact .inr ⟨g, 0, rfl⟩
/-
 The code of layer 8: addLiteral.
-/
theorem enters76 : Enters Tryz.prog 76 := ⟨_, Tryz.func76, by kernel_rfl, by kernel_rfl⟩
theorem zero22 : (Tryz.prog.info? 22).bind (·.zero) = some (.slice none 0 0) := by kernel_rfl
theorem litP_nil' {e : Nat} {P : List Int} (h : P.length = 0) : litP e P = [] := if_pos (List.length_eq_zero_iff.1 h)
theorem ms_add {Cs : List CV} {x : CV} (h : ∀ y ∈ Cs, y.m = y.B.length) (hx : x.m = x.B.length) : ∀ y ∈ Cs ++ [x], y.m = y.B.length := fun y hy => by
 rcases List.mem_append.1 hy with hy | hy
 ·exact h y hy
 ·rw [List.mem_singleton.1 hy]; exact hx
theorem lit_keep {B w : World} {Hc Hd X Y He2 : List Ent} {d : Ent} (h : St B (((Hc ++ Hd) ++ X) ++ He2) w) (hX : X.Perm (d :: Y)) (hY : ∀ e ∈ Y, B.heap.size ≤ e.g) : St B (Hc ++ (He2 ++ (Hd ++ [d]))) w := by
 have hp : (((Hc ++ Hd) ++ X) ++ He2).Perm (Y ++ (Hc ++ (He2 ++ (Hd ++ [d])))) := by
  refine (List.Perm.append_right He2 (List.Perm.append_left (Hc ++ Hd) hX)).trans ?_
  have e1 : ((Hc ++ Hd) ++ d :: Y) ++ He2 = Hc ++ (Hd ++ ([d] ++ (Y ++ He2))) := by simp
  rw [e1]
  have e2 : Y ++ (Hc ++ (He2 ++ (Hd ++ [d]))) = (Y ++ Hc) ++ (He2 ++ (Hd ++ [d])) := by simp
  rw [e2]
  refine List.Perm.trans ?_ (List.Perm.append_right _ List.perm_append_comm)
  rw [List.append_assoc]
  refine List.Perm.append_left Hc ?_
  have e3 : Y ++ (He2 ++ (Hd ++ [d])) = (Y ++ He2) ++ (Hd ++ [d]) := by simp
  have e4 : Hd ++ ([d] ++ (Y ++ He2)) = (Hd ++ [d]) ++ (Y ++ He2) := by simp
  rw [e3, e4]
  exact List.perm_append_comm
 exact zG Y (h.perm hp) hY
theorem addlit_c (B w : World) (Hc He : List Ent) (v : Value) (ps : List PC) (e0 : Nat) (A2 : Option Addr) (m2 c2 : Nat) (P2 : List Int) (he0 : e0 ≤ 1000000) (hpl : ps.length ≤ 3000000) (hm2 : m2 ≤ 1000000) (hmc2 : m2 ≤ c2) (hcm2 : c2 ≤ 9223372036854775807) (hst : St B (Hc ++ He) w) (hL : OwnL B.heap.size 54 v ps He) (hsP : Src w A2 m2 .u8 P2) (hPP : Bytes P2) : Calls Tryz.prog 43 #[v, .int .i64 (e0 : Int), .slice A2 m2 c2] w fun e w' => ∃ v' He', e = .returned v' ∧ OwnL B.heap.size 54 v' (ps ++ litP e0 P2) He' ∧ St B (Hc ++ He') w' := by
 obtain ⟨Cs, Hs, Hd, hCv, hCm, rfl, hS, hD⟩ := hL
 have hPl := hsP.1
 have hBw := hst.size
 have hCl : Cs.length = ps.length := by rw [← hCv, List.length_map]
 have hst2 : St B ((Hc ++ Hd) ++ Hs) w := hst.perm (by rw [List.append_assoc]; exact List.Perm.append_left Hc List.perm_append_comm)
 refine qM (args := [v, .int .i64 (e0 : Int), .slice A2 m2 c2]) Tryz.func43 rfl Tryz.ntmps43 (by simp) ?_
 refine qC [0, 1, 2] ?_
 iterate 13 refine gx ?_
 refine qP rfl (fun hq0 => ?_) (fun hq0 => ?_)
 ·iterate 8 refine gx ?_
  exact qJ rfl rfl (fun w hs => ⟨v, Hs ++ Hd, rfl, ⟨Cs, Hs, Hd, by rw [litP_nil' (by omega), List.append_nil]; exact hCv, hCm, rfl, hS, hD⟩, hst.call' hs⟩)
 ·iterate 7 refine gx ?_
  refine zH (qA rfl) rfl rfl Tryz.underlying65 size22 zero22 rfl (by decide) (by decide) (cells := #[.slice A2 m2 c2]) (tot := 1) (by kernel_rfl) (cs := [.slice A2 m2 c2]) rfl rfl (fun g1 hg1 => ?_)
  refine qt (ι := Nat × Nat) (V := fun yk => .agg ([int .i64 2, int .i64 (e0 : Int), int .i64 0, int .i64 0, slice (some ⟨yk.1, 0, none⟩) m2 yk.2]).toArray) (R := fun yk => (m2 ≤ yk.2 ∧ yk.2 ≤ maxLen) ∧ w.heap.size ≤ (⟨yk.1, 5, P2.map (int .u8), yk.2⟩ : Ent).g) (H' := fun yk => [⟨yk.1, 5, P2.map (int .u8), yk.2⟩, ⟨g1, 22, [slice A2 m2 c2], 1⟩]) (qA rfl) rfl enters76 rfl rfl (fun w hs => (show Calls Tryz.prog 76 #[.int .i64 (e0 : Int), .slice (some ⟨g1, 0, none⟩) 1 1] w (fun e w' => ∃ yk : Nat × Nat, e = .returned (.agg ([int .i64 2, int .i64 (e0 : Int), int .i64 0, int .i64 0, slice (some ⟨yk.1, 0, none⟩) m2 yk.2]).toArray) ∧ (m2 ≤ yk.2 ∧ yk.2 ≤ maxLen) ∧ w.heap.size ≤ (⟨yk.1, 5, P2.map (int .u8), yk.2⟩ : Ent).g ∧ St w [⟨yk.1, 5, P2.map (int .u8), yk.2⟩] w') from (literal1_c (e0 : Int) P2 A2 m2 c2 g1 22 1 w (hs.has (⟨g1, 22, [slice A2 m2 c2], 1⟩) (by simp)) (hsP.at_ hs (fun b hb => (qD (by show g1 ≠ b; omega) qE))) (by omega) (by omega) (by omega)).mono fun e w' ⟨gv, cv, he, hgv, hcv, hmv, hw⟩ => ⟨(gv, cv), he, ⟨hcv, hmv⟩, hgv, hw⟩).mono fun e w' ⟨x, he, hR, hE, hw⟩ => ⟨x, he, ⟨hR, Nat.le_trans hs.size hE⟩, hs.made hw hE⟩) (fun yk ⟨hRk, hEk⟩ => ?_)
  obtain ⟨gk, ck⟩ := yk
  dsimp only at hRk hEk ⊢
  obtain ⟨hck, hmk⟩ := hRk
  unfold maxLen at hmk
  refine zH (qA rfl) rfl rfl Tryz.underlying24 size54 zero54 rfl (by decide) (by decide) (cells := #[.int .i64 2, .int .i64 (e0 : Int), .int .i64 0, .int .i64 0, .slice (some ⟨gk, 0, none⟩) m2 ck]) (tot := 5) (by kernel_rfl) (cs := [.int .i64 2, .int .i64 (e0 : Int), .int .i64 0, .int .i64 0, .slice (some ⟨gk, 0, none⟩) m2 ck]) rfl rfl (fun g2 hg2 => ?_)
  refine TL.appendOver hst2 hS (qA rfl) rfl rfl Tryz.underlying24 mk54 rfl (by decide) rfl rfl (s := 5) (nn := Cs.length) (m := 1) (cs := flatC Cs) (news := cellsC ⟨2, (e0 : Int), 0, 0, some ⟨gk, 0, none⟩, m2, ck, P2⟩) (qH (by assumption) (qH (by assumption) (qH (by assumption) qY))) rfl (fun w hs => lies_srcV (hs.has (⟨g2, 54, [int .i64 2, int .i64 (e0 : Int), int .i64 0, int .i64 0, slice (some ⟨gk, 0, none⟩) m2 ck], 5⟩) (by simp))) (by intro u hu; exact flatC_one' [⟨2, (e0 : Int), 0, 0, some ⟨gk, 0, none⟩, m2, ck, P2⟩] u (by rw [flatC_one]; exact hu)) (by unfold maxLen; omega) (by omega) (fun v2 He2 w2 hown2 hst3 => ?_)
  iterate 4 refine gx ?_
  exact qJ rfl rfl (fun w hs => ⟨v2, He2 ++ (Hd ++ [Ent.mk gk 5 (P2.map (int .u8)) ck]), rfl, ⟨Cs ++ [⟨2, (e0 : Int), 0, 0, some ⟨gk, 0, none⟩, m2, ck, P2⟩], He2, Hd ++ [Ent.mk gk 5 (P2.map (int .u8)) ck], by rw [List.map_append, hCv, litP_some (fun e => by rw [e] at hPl; simp at hPl; omega)]; rfl, ms_add hCm hPl.symm, rfl, by rw [List.length_append, flatC_app, flatC_one]; exact hown2, hD.addL (by omega) hPl hPP (by unfold NumC; dsimp only; omega)⟩, lit_keep (X := [Ent.mk g2 54 ([int .i64 2, int .i64 (e0 : Int), int .i64 0, int .i64 0, slice (some ⟨gk, 0, none⟩) m2 ck]) 5, Ent.mk gk 5 (P2.map (int .u8)) ck, Ent.mk g1 22 ([slice A2 m2 c2]) 1]) (Y := [Ent.mk g2 54 ([int .i64 2, int .i64 (e0 : Int), int .i64 0, int .i64 0, slice (some ⟨gk, 0, none⟩) m2 ck]) 5, Ent.mk g1 22 ([slice A2 m2 c2]) 1]) (hst3.call' hs) (List.Perm.swap _ _ _) (by intro e he; simp only [List.mem_cons, List.not_mem_nil, or_false] at he; rcases he with rfl | rfl <;> (dsimp only; omega))⟩)
/-
 The code of layer 8: Describe.
-/
theorem enters36 : Enters Tryz.prog 36 := ⟨_, Tryz.func36, by kernel_rfl, by kernel_rfl⟩
theorem buildD4 (o n : Int) (D1 D2 : List Int) (h1 : D1.length = 32) (h2 : D2.length = 32) (w : World) : (Instr.build 26 ([(0, int .i64 o), (1, int .i64 n), (2, Value.agg (D1.map (int .u8)).toArray), (3, Value.agg (D2.map (int .u8)).toArray)] : List (Nat × Value)).toArray).run Tryz.prog w = .ok (.agg (dV o n D1 D2 (slice none 0 0)).toArray) w := by
 obtain ⟨a0, a1, a2, a3, a4, a5, a6, a7, a8, a9, a10, a11, a12, a13, a14, a15, a16, a17, a18, a19, a20, a21, a22, a23, a24, a25, a26, a27, a28, a29, a30, a31, rfl⟩ := list32 h1
 obtain ⟨b0, b1, b2, b3, b4, b5, b6, b7, b8, b9, b10, b11, b12, b13, b14, b15, b16, b17, b18, b19, b20, b21, b22, b23, b24, b25, b26, b27, b28, b29, b30, b31, rfl⟩ := list32 h2
 kernel_rfl
theorem desc8_c (B P2 : List Int) (Ao A2 : Option Addr) (mo co m2 c2 : Nat) (A : Option Addr) (m c : Nat) (Cs : List CV) (hmo : mo ≤ co) (hm2 : m2 ≤ c2) (hco : co ≤ 9223372036854775807) (hcm2 : c2 ≤ 9223372036854775807) (hmo3 : mo ≤ 1000000) (hm23 : m2 ≤ 1000000) (hmm : m ≤ 1000000000) (hN : NumsC Cs) (w : World) (hsB : Src w Ao mo .u8 B) (hs2 : Src w A2 m2 .u8 P2) (hC : SrcC w A m Cs) (hD : DatC w Cs) (hf : fewQ Cs) (h1 : 2 < w.heap.size) (hIV : RowI w 0 0 8 .u32 IV) (hK : RowI w 2 0 64 .u32 KT) : Calls Tryz.prog 19 #[.slice Ao mo co, .slice A2 m2 c2, .slice A m c] w fun e w' => ∃ A' c' Fs He, e = .returned (.agg (dV (mo : Int) (m2 : Int) (shaM B) (shaM P2) (slice A' m ((c')))).toArray) ∧ (m ≤ c' ∧ c' ≤ 9223372036854775807) ∧ OwnD w.heap.size A' m Fs He ∧ sameE Fs Cs ∧ St w He w' := by
 refine qM (args := [.slice Ao mo co, .slice A2 m2 c2, .slice A m c]) Tryz.func19 rfl Tryz.ntmps19 (by simp) ?_
 refine qC [0, 1, 2] ?_
 iterate 2 refine gx ?_
 refine TL.alloc (qA rfl) rfl rfl zero26 (cs := [int .i64 0, int .i64 0] ++ ((List.replicate 64 0).map (int .u8) ++ ([slice none 0 0]))) rfl (tot := 67) (by simp) (fun g1 hg1 => ?_)
 iterate 9 refine gx ?_
 refine zH (qA rfl) rfl rfl Tryz.underlying65 size22 zero22 rfl (by decide) (by decide) (cells := #[.slice Ao mo co]) (tot := 1) (by kernel_rfl) (cs := [.slice Ao mo co]) rfl rfl (fun g2 hg2 => ?_)
 refine qL (qA rfl) rfl enters36 rfl rfl (v := .agg ((shaM B).map (int .u8)).toArray) (fun w hs => of_m [B] B (by simp) (some ⟨g2, 0, none⟩) 1 1 w (parts_one (hs.has (⟨g2, 22, [slice Ao mo co], 1⟩) (by simp)) (hsB.at_ hs (fun b hb => (qD (by show g2 ≠ b; omega) (qD (by show g1 ≠ b; omega) qE)))) (by omega)) (by omega) (by omega) (by have h1 := hsB.1; omega) (Nat.lt_of_lt_of_le h1 hs.size) (hIV.keepH hs (by omega) (qD (by show g2 ≠ 0; omega) (qD (by show g1 ≠ 0; omega) qE))) (hK.keepH hs h1 (qD (by show g2 ≠ 2; omega) (qD (by show g1 ≠ 2; omega) qE)))) ?_
 refine gx ?_
 refine zH (qA rfl) rfl rfl Tryz.underlying65 size22 zero22 rfl (by decide) (by decide) (cells := #[.slice A2 m2 c2]) (tot := 1) (by kernel_rfl) (cs := [.slice A2 m2 c2]) rfl rfl (fun g3 hg3 => ?_)
 refine qL (qA rfl) rfl enters36 rfl rfl (v := .agg ((shaM P2).map (int .u8)).toArray) (fun w hs => of_m [P2] P2 (by simp) (some ⟨g3, 0, none⟩) 1 1 w (parts_one (hs.has (⟨g3, 22, [slice A2 m2 c2], 1⟩) (by simp)) (hs2.at_ hs (fun b hb => (qD (by show g3 ≠ b; omega) (qD (by show g2 ≠ b; omega) (qD (by show g1 ≠ b; omega) qE))))) (by omega)) (by omega) (by omega) (by have h1 := hs2.1; omega) (Nat.lt_of_lt_of_le h1 hs.size) (hIV.keepH hs (by omega) (qD (by show g3 ≠ 0; omega) (qD (by show g2 ≠ 0; omega) (qD (by show g1 ≠ 0; omega) qE)))) (hK.keepH hs h1 (qD (by show g3 ≠ 2; omega) (qD (by show g2 ≠ 2; omega) (qD (by show g1 ≠ 2; omega) qE))))) ?_
 refine qB (qA rfl) rfl (qq rfl (vs := [(0, int .i64 (mo : Int)), (1, int .i64 (m2 : Int)), (2, Value.agg ((shaM B).map (int .u8)).toArray), (3, Value.agg ((shaM P2).map (int .u8)).toArray)]) rfl (fun w => buildD4 (mo : Int) (m2 : Int) (shaM B) (shaM P2) (shaM_len B) (shaM_len P2) w) (v := .agg (dV (mo : Int) (m2 : Int) (shaM B) (shaM P2) (slice none 0 0)).toArray)) ?_
 refine gx ?_
 refine qt (ι := (Option Addr × Nat) × (List CV × List Ent)) (V := fun y => .agg (dV (mo : Int) (m2 : Int) (shaM B) (shaM P2) (slice y.1.1 m y.1.2)).toArray) (R := fun y => (m ≤ y.1.2 ∧ y.1.2 ≤ 9223372036854775807) ∧ OwnD w.heap.size y.1.1 m y.2.1 y.2.2 ∧ sameE y.2.1 Cs) (H' := fun y => [⟨g3, 22, [slice A2 m2 c2], 1⟩, ⟨g2, 22, [slice Ao mo co], 1⟩, ⟨g1, 26, [int .i64 0, int .i64 0] ++ ((List.replicate 64 0).map (int .u8) ++ ([slice none 0 0])), 67⟩] ++ y.2.2) (qA rfl) rfl enters38 rfl rfl (fun w hs => (dwith_c (mo : Int) (m2 : Int) (shaM B) (shaM P2) (shaM_len B) (shaM_len P2) none 0 0 A m c Cs hmm hN w (hC.at_ hs (fun b hb => (qD (by show g3 ≠ b; omega) (qD (by show g2 ≠ b; omega) (qD (by show g1 ≠ b; omega) qE))))) (hD.at_ hs (fun b hb => (qD (by show g3 ≠ b; omega) (qD (by show g2 ≠ b; omega) (qD (by show g1 ≠ b; omega) qE))))) hf).mono fun e w' ⟨A', c', Fs, He, he, hc, ho, hsm, hw⟩ => ⟨((A', c'), (Fs, He)), he, ⟨hc, ho.mono hs.size, hsm⟩, st_call hs hw ho.1⟩) (fun y hR => ?_)
 obtain ⟨⟨As, cs⟩, Fs, Hw⟩ := y
 obtain ⟨hcs, hos, hsm⟩ := hR
 dsimp only at hcs hos hsm ⊢
 have hFw : Fresh w Hw := hos.1
 refine TL.storeW (qA rfl) rfl rfl size26 rfl (vs := dV (mo : Int) (m2 : Int) (shaM B) (shaM P2) (slice As m cs)) rfl (by simp [(shaM_len B), (shaM_len P2)]) (ones_app (by simp [Value.oneCell']) (ones_app zB (ones_app zB (by simp [Value.oneCell'])))) (i := 2) (ent := ⟨g1, 26, [int .i64 0, int .i64 0] ++ ((List.replicate 64 0).map (int .u8) ++ ([slice none 0 0])), 67⟩) rfl rfl (by simp []) (H' := [⟨g3, 22, [slice A2 m2 c2], 1⟩, ⟨g2, 22, [slice Ao mo co], 1⟩, ⟨g1, 26, dV (mo : Int) (m2 : Int) (shaM B) (shaM P2) (slice As m cs), 67⟩] ++ Hw) rfl ?_
 iterate 3 refine gx ?_
 exact qo rfl agg26 size26 rfl (vs := dV (mo : Int) (m2 : Int) (shaM B) (shaM P2) (slice As m cs)) (by simp [(shaM_len B), (shaM_len P2)]) (qW (i := 2) (ent := ⟨g1, 26, dV (mo : Int) (m2 : Int) (shaM B) (shaM P2) (slice As m cs), 67⟩) rfl rfl rfl) (fun w hs => ⟨As, cs, Fs, Hw, rfl, hcs, hos, hsm, (((hs.erase (i := 0) rfl (by assumption)).erase (i := 0) rfl (by assumption)).erase (i := 0) rfl (by assumption))⟩)
/-
 The code of layer 8: Make.
-/
theorem agg68 : (isAgg 68).run Tryz.prog = fun w => .ok false w := isAgg_no Tryz.underlying68 rfl
theorem enters19 : Enters Tryz.prog 19 := ⟨_, Tryz.func19, by kernel_rfl, by kernel_rfl⟩
theorem enters40 : Enters Tryz.prog 40 := ⟨_, Tryz.func40, by kernel_rfl, by kernel_rfl⟩
theorem enters42 : Enters Tryz.prog 42 := ⟨_, Tryz.func42, by kernel_rfl, by kernel_rfl⟩
theorem enters43 : Enters Tryz.prog 43 := ⟨_, Tryz.func43, by kernel_rfl, by kernel_rfl⟩
theorem enters44 : Enters Tryz.prog 44 := ⟨_, Tryz.func44, by kernel_rfl, by kernel_rfl⟩
theorem enters73 : Enters Tryz.prog 73 := ⟨_, Tryz.func73, by kernel_rfl, by kernel_rfl⟩
theorem size68 : (Tryz.prog.info? 68).map (·.size) = some 1 := by kernel_rfl
theorem zero24 : (Tryz.prog.info? 24).bind (·.zero) = some (.slice none 0 0) := by kernel_rfl
theorem zero68 : (Tryz.prog.info? 68).bind (·.zero) = some (.nilFunc) := by kernel_rfl
instance : AgN Tryz.prog 68 := ⟨agg68⟩
instance : Zer Tryz.prog 24 [slice none 0 0] := ⟨⟨_, zero24, rfl⟩⟩
instance : Zer Tryz.prog 68 [Value.nilFunc] := ⟨⟨_, zero68, rfl⟩⟩
structure MkS where
 e : Nat
 v : Value
 ps : List PC
 He : List Ent
theorem len_flat_mem {l : List Int} : ∀ {L : List (List Int)}, l ∈ L → l.length ≤ L.flatten.length
 | [], h => by cases h
 | a :: L, h => by
  rw [List.flatten_cons, List.length_append]
  rcases List.mem_cons.1 h with rfl | h
  ·omega
  ·have := len_flat_mem h; omega
theorem ne_app3 {H He : List Ent} {a b c : Nat} (h : ∀ e ∈ H, e.g ≠ a ∧ e.g ≠ b ∧ e.g ≠ c) (h2 : ∀ e ∈ He, e.g ≠ a ∧ e.g ≠ b ∧ e.g ≠ c) : ∀ e ∈ H ++ He, e.g ≠ a ∧ e.g ≠ b ∧ e.g ≠ c := fun e he => by
 rcases List.mem_append.1 he with he | he
 ·exact h e he
 ·exact h2 e he
theorem cmds_few {old new : List Int} {k : Int} {Cs : List CV} (hv : Cs.map valC = cmdsL old new k) (hm : ∀ x ∈ Cs, x.m = x.B.length) (hn : new.length ≤ 300) (hl : Cs.length ≤ 5000) : fewQ Cs := by
 refine ⟨fun i x hx => ?_, hl⟩
 have hmem := List.mem_of_getElem? hx
 obtain ⟨h1, _, _, h4⟩ := cmdsL_leads old new k
 have h5 : valC x ∈ cmdsL old new k := by rw [← hv]; exact List.mem_map_of_mem hmem
 rw [hm x hmem]
 rcases h1 _ h5 with h | h
 ·have : x.B = [] := h.2.2.2.2
  rw [this]; simp
 ·have h6 : segP old (valC x) = x.B := by unfold segP; rw [if_neg (by rw [h.1]; decide)]; rfl
  have h7 : (segP old (valC x)).length ≤ (((cmdsL old new k).map (segP old)).flatten).length := by
   exact len_flat_mem (List.mem_map_of_mem h5)
  rw [h4, List.take_length, h6] at h7
  omega
theorem seg_eq {P2 : List Int} {e i : Nat} : (P2.take i).drop e = (P2.drop e).take (i - e) := by rw [List.drop_take]
theorem roundx_keep {B w : World} {Hc Hd Hs : List Ent} {d : Ent} (h : St B (Hc ++ (([d] ++ Hd) ++ Hs)) w) (hd : B.heap.size ≤ d.g) : St B (Hc ++ (Hs ++ Hd)) w := by
 have hp : (Hc ++ (([d] ++ Hd) ++ Hs)).Perm (d :: (Hc ++ (Hs ++ Hd))) := by
  have e1 : Hc ++ (([d] ++ Hd) ++ Hs) = Hc ++ d :: (Hd ++ Hs) := by simp
  rw [e1]
  refine List.perm_middle.trans (List.Perm.cons d ?_)
  exact List.Perm.append_left Hc List.perm_append_comm
 exact (h.perm hp).drop hd
theorem mk_m {Fs Cx : List CV} (h : sameE Fs Cx) (hm : ∀ x ∈ Cx, x.m = x.B.length) : ∀ x ∈ Fs, x.m = x.B.length := fun x hx => by
 have h1 : keyE x ∈ Cx.map keyE := by rw [← h]; exact List.mem_map_of_mem hx
 obtain ⟨y, hy, he⟩ := List.mem_map.1 h1
 have h2 := hm y hy
 have h3 : y.m = x.m := congrArg Prod.snd he
 have h4 : y.B = x.B := congrArg (fun z => z.1.2.2.2.2) he
 rw [← h3, ← h4]; exact h2
theorem mk_drop {w w2 : World} {X Ha Hw : List Ent} (h : St w (X ++ (([] ++ Ha) ++ Hw)) w2) (hX : ∀ e ∈ X, w.heap.size ≤ e.g) (hA : ∀ e ∈ Ha, w.heap.size ≤ e.g) : St w Hw w2 := by
 refine zG Ha (zG X ?_ hX) hA
 rw [List.nil_append] at h
 exact h
theorem blk_src {w : World} {b o m s i : Nat} {P2 : List Int} (h : Src w (some ⟨b, o, none⟩) m .u8 P2) (hi : i + s ≤ m) : Src w (some ⟨b, o + i, none⟩) s .u8 (blkI P2 s i) := h.cut (l := i) (n := s) (by omega)
theorem seg_src {w : World} {b o m e i : Nat} {P2 : List Int} (h : Src w (some ⟨b, o, none⟩) m .u8 P2) (he : e ≤ i) (hi : i ≤ m) : Src w (some ⟨b, o + e, none⟩) (i - e) .u8 ((P2.take i).drop e) := by
 rw [seg_eq]
 exact h.cut (l := e) (n := i - e) (by omega)
theorem Bytes.blk {P2 : List Int} {s i : Nat} (h : Bytes P2) : Bytes (blkI P2 s i) := (h.drop' i).take' s
theorem cntH_le (n : Nat) (k : Int) : cntH n k ≤ n := by
 unfold cntH; split <;> omega
set_option maxHeartbeats 4000000 in
theorem make8_c (B P2 : List Int) (Ao A2 : Option Addr) (mo co m2 c2 : Nat) (k : Int) (hmo : mo ≤ co) (hm2 : m2 ≤ c2) (hco : co ≤ 9223372036854775807) (hcm2 : c2 ≤ 9223372036854775807) (hmo3 : mo ≤ 300) (hm23 : m2 ≤ 300) (hk : -9223372036854775808 ≤ k ∧ k ≤ 9223372036854775807) (hBB : Bytes B) (hPP : Bytes P2) (w : World) (hsB : Src w Ao mo .u8 B) (hs2 : Src w A2 m2 .u8 P2) (hMX : MaxC w) (h1 : 2 < w.heap.size) (hIV : RowI w 0 0 8 .u32 IV) (hK : RowI w 2 0 64 .u32 KT) : Calls Tryz.prog 22 #[.slice Ao mo co, .slice A2 m2 c2, .int .i64 k] w fun e w' => ∃ A' c' nL Fs He, e = .returned (.agg (dV (mo : Int) (m2 : Int) (shaM B) (shaM P2) (slice A' nL ((c')))).toArray) ∧ (nL ≤ c' ∧ c' ≤ 9223372036854775807) ∧ OwnD w.heap.size A' nL Fs He ∧ (Fs.map valC = cmdsL B P2 k ∧ ∀ x ∈ Fs, x.m = x.B.length) ∧ Fs.length = nL ∧ St w He w' := by
 refine calls_fromM (args := [.slice Ao mo co, .slice A2 m2 c2, .int .i64 k]) Tryz.func22 rfl Tryz.ntmps22 (by simp) ?_
 refine qC [0, 1, 2] ?_
 iterate 2 refine gx ?_
 refine TL.bx1 (fun g1 hg1 => ?_)
 refine TL.bx1 (fun g2 hg2 => ?_)
 refine TL.bx1 (fun g3 hg3 => ?_)
 refine TL.alloc (qA rfl) rfl rfl zero26 (cs := [int .i64 0, int .i64 0] ++ ((List.replicate 64 0).map (int .u8) ++ ([slice none 0 0]))) rfl (tot := 67) (by simp) (fun g4 hg4 => ?_)
 iterate 4 refine gx ?_
 refine qZ (fun g5 hg5 => ?_)
 iterate 4 refine gx ?_
 refine qZ (fun g6 hg6 => ?_)
 refine qv (qA rfl) rfl rfl size3 rfl rfl rfl (i := 0) rfl rfl (by simp [] <;> omega) (cs' := [int .i64 0]) (rfl) (H' := [⟨g6, 3, [int .i64 0], 1⟩, ⟨g5, 24, [slice none 0 0], 1⟩, ⟨g4, 26, [int .i64 0, int .i64 0] ++ ((List.replicate 64 0).map (int .u8) ++ ([slice none 0 0])), 67⟩, ⟨g3, 3, [int .i64 k], 1⟩, ⟨g2, 22, [slice A2 m2 c2], 1⟩, ⟨g1, 22, [slice Ao mo co], 1⟩]) rfl ?_
 iterate 2 refine gx ?_
 refine qC [3, 4, 5, 6, 7, 8] ?_
 iterate 4 refine gx ?_
 refine TL.callB (ι := Nat × Nat × Nat) (V := fun y => .func (.func 73) #[] #[.pointer (some ⟨y.1, 0, none⟩), .pointer (some ⟨y.2.1, 0, none⟩)]) (R := fun y w1 => (∀ e ∈ ([⟨g6, 3, [int .i64 0], 1⟩, ⟨g5, 24, [slice none 0 0], 1⟩, ⟨g4, 26, [int .i64 0, int .i64 0] ++ ((List.replicate 64 0).map (int .u8) ++ ([slice none 0 0])), 67⟩, ⟨g3, 3, [int .i64 k], 1⟩, ⟨g2, 22, [slice A2 m2 c2], 1⟩, ⟨g1, 22, [slice Ao mo co], 1⟩] : List Ent), e.g ≠ y.1 ∧ e.g ≠ y.2.1 ∧ e.g ≠ y.2.2) ∧ FindC w1 y.1 y.2.1 y.2.2 Ao mo co B k) (qA rfl) rfl enters40 rfl rfl (fun w1 hs => (finder_c Ao mo co k B hBB (by omega) hmo hco w1 (hsB.at_ hs (fun b hb => (qD (by show g6 ≠ b; omega) (qD (by show g5 ≠ b; omega) (qD (by show g4 ≠ b; omega) (qD (by show g3 ≠ b; omega) (qD (by show g2 ≠ b; omega) (qD (by show g1 ≠ b; omega) qE))))))))).mono fun e w' ⟨y, he, hR, hw, hF⟩ => ⟨y, he, ⟨fun e he => by have h9 := (hs.has e he).lt; refine ⟨?_, ?_, ?_⟩ <;> omega, hF⟩, hs.call' hw⟩) (fun y w1 hR hs1 => ?_)
 obtain ⟨gm, gf, mb⟩ := y
 obtain ⟨hne, hF1⟩ := hR
 dsimp only at hne hF1 ⊢
 have ng6 := hne _ List.mem_cons_self
 dsimp only at ng6
 have lg6 := (hs1.has _ List.mem_cons_self).lt
 dsimp only at lg6
 have ng5 := hne _ (List.mem_cons_of_mem _ List.mem_cons_self)
 dsimp only at ng5
 have lg5 := (hs1.has _ (List.mem_cons_of_mem _ List.mem_cons_self)).lt
 dsimp only at lg5
 have ng4 := hne _ (List.mem_cons_of_mem _ (List.mem_cons_of_mem _ List.mem_cons_self))
 dsimp only at ng4
 have lg4 := (hs1.has _ (List.mem_cons_of_mem _ (List.mem_cons_of_mem _ List.mem_cons_self))).lt
 dsimp only at lg4
 have ng3 := hne _ (List.mem_cons_of_mem _ (List.mem_cons_of_mem _ (List.mem_cons_of_mem _ List.mem_cons_self)))
 dsimp only at ng3
 have lg3 := (hs1.has _ (List.mem_cons_of_mem _ (List.mem_cons_of_mem _ (List.mem_cons_of_mem _ List.mem_cons_self)))).lt
 dsimp only at lg3
 have ng2 := hne _ (List.mem_cons_of_mem _ (List.mem_cons_of_mem _ (List.mem_cons_of_mem _ (List.mem_cons_of_mem _ List.mem_cons_self))))
 dsimp only at ng2
 have lg2 := (hs1.has _ (List.mem_cons_of_mem _ (List.mem_cons_of_mem _ (List.mem_cons_of_mem _ (List.mem_cons_of_mem _ List.mem_cons_self))))).lt
 dsimp only at lg2
 have ng1 := hne _ (List.mem_cons_of_mem _ (List.mem_cons_of_mem _ (List.mem_cons_of_mem _ (List.mem_cons_of_mem _ (List.mem_cons_of_mem _ List.mem_cons_self)))))
 dsimp only at ng1
 have lg1 := (hs1.has _ (List.mem_cons_of_mem _ (List.mem_cons_of_mem _ (List.mem_cons_of_mem _ (List.mem_cons_of_mem _ (List.mem_cons_of_mem _ List.mem_cons_self)))))).lt
 dsimp only at lg1
 have hwB : St w [] w1 := zG [⟨g6, 3, [int .i64 0], 1⟩, ⟨g5, 24, [slice none 0 0], 1⟩, ⟨g4, 26, [int .i64 0, int .i64 0] ++ ((List.replicate 64 0).map (int .u8) ++ ([slice none 0 0])), 67⟩, ⟨g3, 3, [int .i64 k], 1⟩, ⟨g2, 22, [slice A2 m2 c2], 1⟩, ⟨g1, 22, [slice Ao mo co], 1⟩] (by rw [List.append_nil]; exact hs1) (qH (by assumption) (qH (by assumption) (qH (by assumption) (qH (by assumption) (qH (by assumption) (qH (by assumption) qY))))))
 have hwz := hwB.size
 have hlm := hF1.lm
 have hlf := hF1.lf
 have hlb := hF1.mp.lt
 refine qZ (fun g7 hg7 => ?_)
 refine qv (qA rfl) rfl rfl size68 rfl rfl rfl (i := 0) rfl rfl (by simp [] <;> omega) (cs' := [Value.func (.func 73) #[] #[.pointer (some ⟨gm, 0, none⟩), .pointer (some ⟨gf, 0, none⟩)]]) (rfl) (H' := [⟨g7, 68, [Value.func (.func 73) #[] #[.pointer (some ⟨gm, 0, none⟩), .pointer (some ⟨gf, 0, none⟩)]], 1⟩, ⟨g6, 3, [int .i64 0], 1⟩, ⟨g5, 24, [slice none 0 0], 1⟩, ⟨g4, 26, [int .i64 0, int .i64 0] ++ ((List.replicate 64 0).map (int .u8) ++ ([slice none 0 0])), 67⟩, ⟨g3, 3, [int .i64 k], 1⟩, ⟨g2, 22, [slice A2 m2 c2], 1⟩, ⟨g1, 22, [slice Ao mo co], 1⟩]) rfl ?_
 iterate 2 refine gx ?_
 refine qC [3, 4, 5, 6, 7, 8, 9] ?_
 iterate 5 refine gx ?_
 refine qt (ι := Nat × Nat) (V := fun y => .func (.func 75) #[] #[.pointer (some ⟨y.1, 0, none⟩), .pointer (some ⟨y.2, 0, none⟩)]) (R := fun y => w1.heap.size ≤ y.1 ∧ w1.heap.size ≤ y.2) (H' := fun y => [⟨g7, 68, [Value.func (.func 73) #[] #[.pointer (some ⟨gm, 0, none⟩), .pointer (some ⟨gf, 0, none⟩)]], 1⟩, ⟨g6, 3, [int .i64 0], 1⟩, ⟨g5, 24, [slice none 0 0], 1⟩, ⟨g4, 26, [int .i64 0, int .i64 0] ++ ((List.replicate 64 0).map (int .u8) ++ ([slice none 0 0])), 67⟩, ⟨g3, 3, [int .i64 k], 1⟩, ⟨g2, 22, [slice A2 m2 c2], 1⟩, ⟨g1, 22, [slice Ao mo co], 1⟩, ⟨y.1, 3, [int .i64 k], 1⟩, ⟨y.2, 22, [slice A2 m2 c2], 1⟩]) (qA rfl) rfl enters41 rfl rfl (fun w hs => (hashes_c A2 m2 c2 k w).mono fun e w' ⟨y, he, hR, hw⟩ => ⟨y, he, ⟨Nat.le_trans hs.size hR.1, Nat.le_trans hs.size hR.2⟩, st_call hs hw (fun e he => by rcases List.mem_cons.1 he with rfl | he; exact hR.1; rw [List.mem_singleton.1 he]; exact hR.2)⟩) (fun y hR => ?_)
 obtain ⟨gs, gb⟩ := y
 obtain ⟨hgs, hgb⟩ := hR
 dsimp only at hgs hgb ⊢
 iterate 2 refine gx ?_
 refine qC [3, 4, 5, 6, 7, 8, 9, 19] ?_
 refine gx ?_
 have hwz0 := hwB.size
 have ng7 : g7 ≠ gm ∧ g7 ≠ gf ∧ g7 ≠ mb := ⟨by omega, by omega, by omega⟩
 refine TC.rangeX (ι := MkS) (V1 := fun i => .int .i64 (i : Int)) (V2 := fun i => .int .u64 (hshI (blkI P2 k.toNat i))) (N := cntH m2 k) (c := 0) (Cap := capA gs gb A2 m2) rfl rfl rfl rfl rfl enters75 (fun w hs => hash_itC gs gb A2 m2 c2 k P2 hPP (by omega) hm2 hcm2 w ((hs.has (⟨gs, 3, [int .i64 k], 1⟩) (List.mem_of_getElem? (i := 7) rfl)).cell rfl) ((hs.has (⟨gb, 22, [slice A2 m2 c2], 1⟩) (List.mem_of_getElem? (i := 8) rfl)).cell rfl) (hs.has (⟨gs, 3, [int .i64 k], 1⟩) (List.mem_of_getElem? (i := 7) rfl)).lt (hs.has (⟨gb, 22, [slice A2 m2 c2], 1⟩) (List.mem_of_getElem? (i := 8) rfl)).lt (hs2.at_ (hwB.rebase hs (qH (by first | assumption | (dsimp only; omega)) (qH (by first | assumption | (dsimp only; omega)) (qH (by first | assumption | (dsimp only; omega)) (qH (by first | assumption | (dsimp only; omega)) (qH (by first | assumption | (dsimp only; omega)) (qH (by first | assumption | (dsimp only; omega)) (qH (by first | assumption | (dsimp only; omega)) (qH (by first | assumption | (dsimp only; omega)) (qH (by first | assumption | (dsimp only; omega)) qY)))))))))) (fun b hb => (qD (by show g7 ≠ b; omega) (qD (by show g6 ≠ b; omega) (qD (by show g5 ≠ b; omega) (qD (by show g4 ≠ b; omega) (qD (by show g3 ≠ b; omega) (qD (by show g2 ≠ b; omega) (qD (by show g1 ≠ b; omega) (qD (by show gs ≠ b; omega) (qD (by show gb ≠ b; omega) qE)))))))))))) (fun N0 i x => GI B P2 k i x.e x.ps ∧ OwnL N0 54 x.v x.ps x.He ∧ x.ps.length ≤ 2 * i) (fun x => [⟨g7, 68, [Value.func (.func 73) #[] #[.pointer (some ⟨gm, 0, none⟩), .pointer (some ⟨gf, 0, none⟩)]], 1⟩, ⟨g6, 3, [int .i64 (x.e : Int)], 1⟩, ⟨g5, 24, [x.v], 1⟩, ⟨g4, 26, [int .i64 0, int .i64 0] ++ ((List.replicate 64 0).map (int .u8) ++ ([slice none 0 0])), 67⟩, ⟨g3, 3, [int .i64 k], 1⟩, ⟨g2, 22, [slice A2 m2 c2], 1⟩, ⟨g1, 22, [slice Ao mo co], 1⟩]) (fun x => x.He) [g7, g6, g5, g4, g3, g2, g1] (fun i => [(3, .pointer (some ⟨g1, 0, none⟩)), (4, .pointer (some ⟨g2, 0, none⟩)), (5, .pointer (some ⟨g3, 0, none⟩)), (7, .pointer (some ⟨g5, 0, none⟩)), (8, .pointer (some ⟨g6, 0, none⟩)), (9, .pointer (some ⟨g7, 0, none⟩)), (10, .int .i64 (i : Int)), (11, .int .u64 (hshI (blkI P2 k.toNat i)))]) (⟨0, .slice none 0 0, [], []⟩ : MkS) (fun _ => rfl) (fun N0 N1 i x hN h => ⟨h.1, h.2.1.mono hN, h.2.2⟩) (fun N0 _ => ⟨GI.zero _ _ _, OwnL.nil _ _, Nat.le_refl _⟩) (fun w h => ((h.erase (i := 8) rfl (by assumption)).erase (i := 7) rfl (by assumption))) rfl (fun w hs q hk => by rcases hk with h | h | ⟨hm0, ad, hA, h⟩; (exact ⟨by rw [h]; exact (hs.has (⟨gs, 3, [int .i64 k], 1⟩) (List.mem_of_getElem? (i := 7) rfl)).lt, by rw [h]; exact (fun hm => by simp only [List.mem_cons, List.not_mem_nil, or_false] at hm; rcases hm with hm | hm | hm | hm | hm | hm | hm <;> first | exact absurd hm (pairwise_ne hs.apart (i := 7) (j := 0) rfl rfl (by decide)) | exact absurd hm (pairwise_ne hs.apart (i := 7) (j := 1) rfl rfl (by decide)) | exact absurd hm (pairwise_ne hs.apart (i := 7) (j := 2) rfl rfl (by decide)) | exact absurd hm (pairwise_ne hs.apart (i := 7) (j := 3) rfl rfl (by decide)) | exact absurd hm (pairwise_ne hs.apart (i := 7) (j := 4) rfl rfl (by decide)) | exact absurd hm (pairwise_ne hs.apart (i := 7) (j := 5) rfl rfl (by decide)) | exact absurd hm (pairwise_ne hs.apart (i := 7) (j := 6) rfl rfl (by decide)))⟩); (exact ⟨by rw [h]; exact (hs.has (⟨gb, 22, [slice A2 m2 c2], 1⟩) (List.mem_of_getElem? (i := 8) rfl)).lt, by rw [h]; exact (fun hm => by simp only [List.mem_cons, List.not_mem_nil, or_false] at hm; rcases hm with hm | hm | hm | hm | hm | hm | hm <;> first | exact absurd hm (pairwise_ne hs.apart (i := 8) (j := 0) rfl rfl (by decide)) | exact absurd hm (pairwise_ne hs.apart (i := 8) (j := 1) rfl rfl (by decide)) | exact absurd hm (pairwise_ne hs.apart (i := 8) (j := 2) rfl rfl (by decide)) | exact absurd hm (pairwise_ne hs.apart (i := 8) (j := 3) rfl rfl (by decide)) | exact absurd hm (pairwise_ne hs.apart (i := 8) (j := 4) rfl rfl (by decide)) | exact absurd hm (pairwise_ne hs.apart (i := 8) (j := 5) rfl rfl (by decide)) | exact absurd hm (pairwise_ne hs.apart (i := 8) (j := 6) rfl rfl (by decide)))⟩); (have h2 := hs2; rw [hA] at h2; have h3 := h2.blk hm0; exact ⟨by rw [h]; have := hs.size; omega, by rw [h]; simp only [List.mem_cons, List.not_mem_nil, or_false]; omega⟩)) (fun l i v hiN => ?_) (fun l i x B0 hiN hwB0 hC hF hB => ?_) (fun lo x B0 hlo hwB0 hC hF hB hD hgl => ?_)
 ·iterate 5 refine gx ?_
  refine qC [3, 4, 5, 6, 7, 8, 9, 10, 21] ?_
  iterate 3 refine gx ?_
  exact TE.asg (qK (i := 3) rfl (qK (i := 4) rfl (qK (i := 5) rfl (qK (i := 7) rfl (qK (i := 8) rfl (qK (i := 9) rfl (qF (i := 10) rfl (by first | omega | rfl) (qF (i := 11) rfl (by first | rfl | omega) (qO)))))))))
 ·obtain ⟨e0, v, ps, He⟩ := x
  obtain ⟨hGI, hL, hpl⟩ := hC
  dsimp only at hGI hL hpl hF hB ⊢
  have hwB0' : St w [⟨g7, 68, [Value.func (.func 73) #[] #[.pointer (some ⟨gm, 0, none⟩), .pointer (some ⟨gf, 0, none⟩)]], 1⟩, ⟨g6, 3, [int .i64 (e0 : Int)], 1⟩, ⟨g5, 24, [v], 1⟩, ⟨g4, 26, [int .i64 0, int .i64 0] ++ ((List.replicate 64 0).map (int .u8) ++ ([slice none 0 0])), 67⟩, ⟨g3, 3, [int .i64 k], 1⟩, ⟨g2, 22, [slice A2 m2 c2], 1⟩, ⟨g1, 22, [slice Ao mo co], 1⟩] B0 := hwB.rebase hB (qH (by first | assumption | (dsimp only; omega)) (qH (by first | assumption | (dsimp only; omega)) (qH (by first | assumption | (dsimp only; omega)) (qH (by first | assumption | (dsimp only; omega)) (qH (by first | assumption | (dsimp only; omega)) (qH (by first | assumption | (dsimp only; omega)) (qH (by first | assumption | (dsimp only; omega)) qY)))))))
  have hfrC : ∀ e ∈ ([⟨g7, 68, [Value.func (.func 73) #[] #[.pointer (some ⟨gm, 0, none⟩), .pointer (some ⟨gf, 0, none⟩)]], 1⟩, ⟨g6, 3, [int .i64 (e0 : Int)], 1⟩, ⟨g5, 24, [v], 1⟩, ⟨g4, 26, [int .i64 0, int .i64 0] ++ ((List.replicate 64 0).map (int .u8) ++ ([slice none 0 0])), 67⟩, ⟨g3, 3, [int .i64 k], 1⟩, ⟨g2, 22, [slice A2 m2 c2], 1⟩, ⟨g1, 22, [slice Ao mo co], 1⟩] : List Ent), w.heap.size ≤ e.g := (qH (by first | assumption | (dsimp only; omega)) (qH (by first | assumption | (dsimp only; omega)) (qH (by first | assumption | (dsimp only; omega)) (qH (by first | assumption | (dsimp only; omega)) (qH (by first | assumption | (dsimp only; omega)) (qH (by first | assumption | (dsimp only; omega)) (qH (by first | assumption | (dsimp only; omega)) qY)))))))
  have hwB : St w [] B0 := zG [⟨g7, 68, [Value.func (.func 73) #[] #[.pointer (some ⟨gm, 0, none⟩), .pointer (some ⟨gf, 0, none⟩)]], 1⟩, ⟨g6, 3, [int .i64 (e0 : Int)], 1⟩, ⟨g5, 24, [v], 1⟩, ⟨g4, 26, [int .i64 0, int .i64 0] ++ ((List.replicate 64 0).map (int .u8) ++ ([slice none 0 0])), 67⟩, ⟨g3, 3, [int .i64 k], 1⟩, ⟨g2, 22, [slice A2 m2 c2], 1⟩, ⟨g1, 22, [slice Ao mo co], 1⟩] (by rw [List.append_nil]; exact hwB0') hfrC
  have hwz := hwB.size
  have hP2l := hs2.1
  have hBl := hsB.1
  have hFb : FindC B0 gm gf mb Ao mo co B k := hF1.at_ hB (List.forall_mem_cons.2 ⟨ng7, (List.forall_mem_cons.2 ⟨ng6, (List.forall_mem_cons.2 ⟨ng5, (List.forall_mem_cons.2 ⟨ng4, (List.forall_mem_cons.2 ⟨ng3, (List.forall_mem_cons.2 ⟨ng2, (List.forall_mem_cons.2 ⟨ng1, (fun e he => absurd he List.not_mem_nil)⟩)⟩)⟩)⟩)⟩)⟩)⟩)
  have hMb : MaxC B0 := hMX.at_ hwB (by simp)
  have hlm := hFb.lm
  have hlf := hFb.lf
  have hlb := hFb.mp.lt
  have hlM := hMb.1
  have hMw := hMX.1
  have hcnt := cntH_lt hiN
  obtain ⟨s, rfl⟩ : ∃ s : Nat, k = s := ⟨k.toNat, by omega⟩
  obtain ⟨b2, o2, hA2, hb2, hr2⟩ := hs2.2.resolve_left (by omega)
  subst hA2
  simp only [Int.toNat_natCast]
  have hle := hGI.le
  iterate 9 refine gx ?_
  refine qC [3, 4, 5, 7, 8, 9, 10, 11, 24] ?_
  refine qP rfl (fun hq0 => ?_) (fun hq0 => ?_)
  ·iterate 3 refine gx ?_
   exact TE.roundX (⟨e0, v, ps, He⟩ : MkS) ⟨hGI.skip (by omega), hL, by show ps.length ≤ 2 * (i + 1); omega⟩ hF (fun w h => h)
  ·iterate 2 refine gx ?_
   refine qC [3, 4, 5, 7, 8, 9, 10, 11] ?_
   refine gx ?_
   obtain ⟨rq, hrq⟩ : ∃ rq : Int, rq = occI B (blkI P2 s i) (s : Int) := ⟨_, rfl⟩
   have hoc := occ_cases B (blkI P2 s i) (s : Int)
   rw [← hrq, match_blk (by omega) (by omega)] at hoc
   refine qs (hok := ⟨fun ⟨_, _, h⟩ => (show False from h), by kernel_rfl⟩) (by kernel_rfl) [1, 1, 0, 0, 1, 0, 0, 0, 1, 0] rfl (by kernel_rfl) ?_
   iterate 5 refine gx ?_
   refine qG (qA rfl) rfl (fun _ => qQ rfl rfl rfl (r := ((i : Int) + (s : Int))) (w64 (by omega) (by omega))) ?_
   refine qG (qA rfl) rfl (fun _ => zF rfl Tryz.underlying22 size5 rfl (bnd.at_ (l := i) rfl (by omega)) (bnd.at_ (l := (i + s)) rfl (by omega)) (by omega) (by omega) (A' := some ⟨b2, (o2 + i), none⟩) (cut_is (by omega) (by omega)) (ln := s) (cp := (c2 - i)) (by omega) (by omega)) ?_
   refine gx ?_
   refine TM.call0F (qA rfl) rfl enters73 rfl rfl rfl (v := .int .i64 rq) (fun w hs => (ffind_c gm gf mb Ao mo co B s (some ⟨b2, (o2 + i), none⟩) s (c2 - i) (blkI P2 s i) (by omega) rfl hmo hco (by omega) (by omega) hBB (hPP.blk) w (hFb.at_ hs (ne_app3 (List.forall_mem_cons.2 ⟨ng7, (List.forall_mem_cons.2 ⟨ng6, (List.forall_mem_cons.2 ⟨ng5, (List.forall_mem_cons.2 ⟨ng4, (List.forall_mem_cons.2 ⟨ng3, (List.forall_mem_cons.2 ⟨ng2, (List.forall_mem_cons.2 ⟨ng1, (fun e he => absurd he List.not_mem_nil)⟩)⟩)⟩)⟩)⟩)⟩)⟩) (fun e he => by have h9 := hF e he; refine ⟨?_, ?_, ?_⟩ <;> omega))) (hsB.at_ (hwB.rebase hs (qx (qH (by first | assumption | (dsimp only; omega)) (qH (by first | assumption | (dsimp only; omega)) (qH (by first | assumption | (dsimp only; omega)) (qH (by first | assumption | (dsimp only; omega)) (qH (by first | assumption | (dsimp only; omega)) (qH (by first | assumption | (dsimp only; omega)) (qH (by first | assumption | (dsimp only; omega)) qY))))))) (fun e he => Nat.le_trans hwz (hF e he)))) (fun b hb => (qa (qD (by show g7 ≠ b; omega) (qD (by show g6 ≠ b; omega) (qD (by show g5 ≠ b; omega) (qD (by show g4 ≠ b; omega) (qD (by show g3 ≠ b; omega) (qD (by show g2 ≠ b; omega) (qD (by show g1 ≠ b; omega) qE))))))) (Fresh.ne hF (Nat.lt_of_lt_of_le hb hwz))))) (blk_src (((hs2.at_ (hwB.rebase hs (qx (qH (by first | assumption | (dsimp only; omega)) (qH (by first | assumption | (dsimp only; omega)) (qH (by first | assumption | (dsimp only; omega)) (qH (by first | assumption | (dsimp only; omega)) (qH (by first | assumption | (dsimp only; omega)) (qH (by first | assumption | (dsimp only; omega)) (qH (by first | assumption | (dsimp only; omega)) qY))))))) (fun e he => Nat.le_trans hwz (hF e he)))) (fun b hb => (qa (qD (by show g7 ≠ b; omega) (qD (by show g6 ≠ b; omega) (qD (by show g5 ≠ b; omega) (qD (by show g4 ≠ b; omega) (qD (by show g3 ≠ b; omega) (qD (by show g2 ≠ b; omega) (qD (by show g1 ≠ b; omega) qE))))))) (Fresh.ne hF (Nat.lt_of_lt_of_le hb hwz)))))) : Src _ (some ⟨b2, o2, none⟩) m2 .u8 P2) (s := s) (i := i) (by omega)) (hMb.at_ hs (qa (qD (by show g7 ≠ 1; omega) (qD (by show g6 ≠ 1; omega) (qD (by show g5 ≠ 1; omega) (qD (by show g4 ≠ 1; omega) (qD (by show g3 ≠ 1; omega) (qD (by show g2 ≠ 1; omega) (qD (by show g1 ≠ 1; omega) qE))))))) (hF.ne hlM)))).mono fun e w' h => by rw [← hrq] at h; exact h) ?_
   iterate 3 refine gx ?_
   refine qC [3, 4, 7, 8, 10, 12] ?_
   iterate 7 refine gx ?_
   refine qP rfl (fun hq1 => ?_) (fun hq1 => ?_)
   ·have hmq := (hoc.resolve_right (by rintro ⟨q, h, _⟩; omega)).2
    iterate 3 refine gx ?_
    exact TE.roundX (⟨e0, v, ps, He⟩ : MkS) ⟨hGI.lit (by omega) (by omega) hmq, hL, by show ps.length ≤ 2 * (i + 1); omega⟩ hF (fun w h => h)
   ·obtain ⟨q, hq, hmq⟩ := hoc.resolve_left (by rintro ⟨h, _⟩; omega)
    subst hq
    have hsp := matchI_spec hmq
    obtain ⟨nn, hnn⟩ : ∃ nn : Nat, nn = eqN (B.drop q) (P2.drop i) := ⟨_, rfl⟩
    rw [← hnn, List.length_drop] at hsp
    obtain ⟨bo, oo, hAo, hbo, hro⟩ := hsB.2.resolve_left (by omega)
    subst hAo
    iterate 3 refine gx ?_
    refine qs (hok := ⟨fun ⟨_, _, h⟩ => (show False from h), by kernel_rfl⟩) (by kernel_rfl) [1, 0, 0, 1, 0, 0, 1, 0] rfl (by kernel_rfl) ?_
    refine qX (qA rfl) rfl (qN rfl agg22 rfl (qU (i := 6) (ent := ⟨g1, 22, [slice (some ⟨bo, oo, none⟩) mo co], 1⟩) (off := 0) rfl rfl (by exact rfl))) ?_
    refine gx ?_
    refine qG (qA rfl) rfl (fun _ => zF rfl Tryz.underlying22 size5 rfl (bnd.at_ (l := q) rfl (by omega)) bnd.dflt (by omega) (by omega) (A' := some ⟨bo, (oo + q), none⟩) (cut_is (by omega) (by omega)) (ln := (mo - q)) (cp := (co - q)) (by omega) (by omega)) ?_
    iterate 2 refine gx ?_
    refine qG (qA rfl) rfl (fun _ => zF rfl Tryz.underlying22 size5 rfl (bnd.at_ (l := i) rfl (by omega)) bnd.dflt (by omega) (by omega) (A' := some ⟨b2, (o2 + i), none⟩) (cut_is (by omega) (by omega)) (ln := (m2 - i)) (cp := (c2 - i)) (by omega) (by omega)) ?_
    refine qz (qA rfl) rfl enters42 rfl rfl (v := .int .i64 (nn : Int)) (fun w hs => (common_c (B.drop q) (P2.drop i) (some ⟨bo, (oo + q), none⟩) (some ⟨b2, (o2 + i), none⟩) (mo - q) (co - q) (m2 - i) (c2 - i) w ((((hsB.at_ (hwB.rebase hs (qx (qH (by first | assumption | (dsimp only; omega)) (qH (by first | assumption | (dsimp only; omega)) (qH (by first | assumption | (dsimp only; omega)) (qH (by first | assumption | (dsimp only; omega)) (qH (by first | assumption | (dsimp only; omega)) (qH (by first | assumption | (dsimp only; omega)) (qH (by first | assumption | (dsimp only; omega)) qY))))))) (fun e he => Nat.le_trans hwz (hF e he)))) (fun b hb => (qa (qD (by show g7 ≠ b; omega) (qD (by show g6 ≠ b; omega) (qD (by show g5 ≠ b; omega) (qD (by show g4 ≠ b; omega) (qD (by show g3 ≠ b; omega) (qD (by show g2 ≠ b; omega) (qD (by show g1 ≠ b; omega) qE))))))) (Fresh.ne hF (Nat.lt_of_lt_of_le hb hwz)))))) : Src _ (some ⟨bo, oo, none⟩) mo .u8 B).dropS (q := q) (by omega)) ((((hs2.at_ (hwB.rebase hs (qx (qH (by first | assumption | (dsimp only; omega)) (qH (by first | assumption | (dsimp only; omega)) (qH (by first | assumption | (dsimp only; omega)) (qH (by first | assumption | (dsimp only; omega)) (qH (by first | assumption | (dsimp only; omega)) (qH (by first | assumption | (dsimp only; omega)) (qH (by first | assumption | (dsimp only; omega)) qY))))))) (fun e he => Nat.le_trans hwz (hF e he)))) (fun b hb => (qa (qD (by show g7 ≠ b; omega) (qD (by show g6 ≠ b; omega) (qD (by show g5 ≠ b; omega) (qD (by show g4 ≠ b; omega) (qD (by show g3 ≠ b; omega) (qD (by show g2 ≠ b; omega) (qD (by show g1 ≠ b; omega) qE))))))) (Fresh.ne hF (Nat.lt_of_lt_of_le hb hwz)))))) : Src _ (some ⟨b2, o2, none⟩) m2 .u8 P2).dropS (q := i) (by omega)) (by omega) (by omega) (by omega) (by omega) _ rfl).mono fun e w' h => by rw [← hnn] at h; exact h) ?_
    iterate 3 refine gx ?_
    refine qC [4, 7, 8, 10, 12, 13] ?_
    refine gx ?_
    refine TC.heap (H' := [⟨g7, 68, [Value.func (.func 73) #[] #[.pointer (some ⟨gm, 0, none⟩), .pointer (some ⟨gf, 0, none⟩)]], 1⟩, ⟨g6, 3, [int .i64 (e0 : Int)], 1⟩, ⟨g5, 24, [v], 1⟩, ⟨g4, 26, [int .i64 0, int .i64 0] ++ ((List.replicate 64 0).map (int .u8) ++ ([slice none 0 0])), 67⟩, ⟨g3, 3, [int .i64 (s : Int)], 1⟩, ⟨g2, 22, [slice (some ⟨b2, o2, none⟩) m2 c2], 1⟩, ⟨g1, 22, [slice (some ⟨bo, oo, none⟩) mo co], 1⟩] ++ ([] ++ He)) (fun w h => h) ?_
    refine TC.mixBn (hok := ⟨fun ⟨_, _, h⟩ => (show False from h), by kernel_rfl⟩) (HB := [Ent.mk g7 68 ([Value.func (.func 73) #[] #[.pointer (some ⟨gm, 0, none⟩), .pointer (some ⟨gf, 0, none⟩)]]) 1, Ent.mk g6 3 ([int .i64 (e0 : Int)]) 1, Ent.mk g5 24 ([v]) 1, Ent.mk g4 26 ([int .i64 0, int .i64 0] ++ ((List.replicate 64 0).map (int .u8) ++ ([slice none 0 0]))) 67, Ent.mk g3 3 ([int .i64 (s : Int)]) 1, Ent.mk g2 22 ([slice (some ⟨b2, o2, none⟩) m2 c2]) 1, Ent.mk g1 22 ([slice (some ⟨bo, oo, none⟩) mo co]) 1]) (H := [] ++ He) (by kernel_rfl) [0, 0, 0, 0, 0, 0, 3, 0, 0, 0, 3, 3, 3, 7] [0, 1, 2, 3, 4, 5, 7, 8, 9, 6, 10, 11, 12, 13] (by kernel_rfl) ?_
    refine TP.stay (qA rfl) rfl (fun H' => qN rfl agg24 rfl (qU (i := 2) (ent := ⟨g5, 24, [v], 1⟩) (off := 0) rfl rfl (by exact rfl))) ?_
    refine TP.stay (qA rfl) rfl (fun H' => qN rfl agg3 rfl (qU (i := 1) (ent := ⟨g6, 3, [int .i64 (e0 : Int)], 1⟩) (off := 0) rfl rfl (by exact rfl))) ?_
    refine TP.stay (qA rfl) rfl (fun H' => qN rfl agg22 rfl (qU (i := 5) (ent := ⟨g2, 22, [slice (some ⟨b2, o2, none⟩) m2 c2], 1⟩) (off := 0) rfl rfl (by exact rfl))) ?_
    refine TP.stay (qA rfl) rfl (fun H' => qN rfl agg3 rfl (qU (i := 1) (ent := ⟨g6, 3, [int .i64 (e0 : Int)], 1⟩) (off := 0) rfl rfl (by exact rfl))) ?_
    refine TP.free (qA rfl) rfl (fun _ => qu rfl rfl) ?_
    refine TP.free (qA rfl) rfl (fun _ => zF rfl Tryz.underlying22 size5 rfl (bnd.at_ (l := e0) rfl (by omega)) (bnd.at_ (l := i) rfl (by omega)) (by omega) (by omega) (A' := some ⟨b2, (o2 + e0), none⟩) (cut_is (by omega) (by omega)) (ln := (i - e0)) (cp := (c2 - e0)) (by omega) (by omega)) ?_
    refine TP.free (qA rfl) rfl (fun _ => qu rfl rfl) ?_
    refine TP.free (qA rfl) rfl (fun _ => qu rfl rfl) ?_
    refine TP.free (qA rfl) rfl (fun _ => qu rfl rfl) ?_
    refine TP.call (ι := Value × List Ent) (V := fun y => y.1) (R := fun y => OwnL B0.heap.size 54 y.1 (ps ++ litP e0 ((P2.take i).drop e0)) y.2) (H' := fun y => [] ++ y.2) (qA rfl) rfl enters43 rfl rfl (fun w hs => (addlit_c B0 w [Ent.mk g7 68 ([Value.func (.func 73) #[] #[.pointer (some ⟨gm, 0, none⟩), .pointer (some ⟨gf, 0, none⟩)]]) 1, Ent.mk g6 3 ([int .i64 (e0 : Int)]) 1, Ent.mk g5 24 ([v]) 1, Ent.mk g4 26 ([int .i64 0, int .i64 0] ++ ((List.replicate 64 0).map (int .u8) ++ ([slice none 0 0]))) 67, Ent.mk g3 3 ([int .i64 (s : Int)]) 1, Ent.mk g2 22 ([slice (some ⟨b2, o2, none⟩) m2 c2]) 1, Ent.mk g1 22 ([slice (some ⟨bo, oo, none⟩) mo co]) 1] He v ps e0 (some ⟨b2, (o2 + e0), none⟩) (i - e0) (c2 - e0) ((P2.take i).drop e0) (by omega) (by omega) (by omega) (by omega) (by omega) hs hL (seg_src (((hs2.at_ (hwB.rebase hs (qx (qH (by first | assumption | (dsimp only; omega)) (qH (by first | assumption | (dsimp only; omega)) (qH (by first | assumption | (dsimp only; omega)) (qH (by first | assumption | (dsimp only; omega)) (qH (by first | assumption | (dsimp only; omega)) (qH (by first | assumption | (dsimp only; omega)) (qH (by first | assumption | (dsimp only; omega)) qY))))))) (fun e he => Nat.le_trans hwz (hF e he)))) (fun b hb => (qa (qD (by show g7 ≠ b; omega) (qD (by show g6 ≠ b; omega) (qD (by show g5 ≠ b; omega) (qD (by show g4 ≠ b; omega) (qD (by show g3 ≠ b; omega) (qD (by show g2 ≠ b; omega) (qD (by show g1 ≠ b; omega) qE))))))) (Fresh.ne hF (Nat.lt_of_lt_of_le hb hwz)))))) : Src _ (some ⟨b2, o2, none⟩) m2 .u8 P2) (e := e0) (i := i) (by omega) (by omega)) ((hPP.take' i).drop' e0)).mono fun e w' ⟨v', He', he, hL', hst⟩ => ⟨(v', He'), he, hL', hst⟩) (fun y hLa => ?_)
    obtain ⟨va, Ha⟩ := y
    dsimp only at hLa ⊢
    have hFa : Fresh B0 Ha := hLa.new
    refine TP.call (ι := Unit) (V := fun _ => .agg ([int .i64 1, int .i64 (i : Int), int .i64 (q : Int), int .i64 (nn : Int), slice none 0 0]).toArray) (R := fun _ => True) (H' := fun _ => [] ++ Ha) (qA rfl) rfl enters44 rfl rfl (fun w hs => (copy_c (i : Int) (q : Int) (nn : Int) w).mono fun e w' ⟨he, hw⟩ => ⟨(), he, trivial, hs.call' hw⟩) (fun _ _ => ?_)
    refine TP.buildSlice (qA rfl) rfl rfl Tryz.underlying24 size54 zero54 rfl (by decide) (by decide) (cells := #[.int .i64 1, .int .i64 (i : Int), .int .i64 (q : Int), .int .i64 (nn : Int), .slice none 0 0]) (tot := 5) (by kernel_rfl) (cs := [.int .i64 1, .int .i64 (i : Int), .int .i64 (q : Int), .int .i64 (nn : Int), .slice none 0 0]) rfl rfl (fun g8 hg8 => ?_)
    obtain ⟨Cs1, Hs1, Hd1, hCv1, hCm1, hHa, hS1, hD1⟩ := hLa
    subst hHa
    have hCl1 : Cs1.length ≤ 3000000 := by rw [← List.length_map (f := valC), hCv1, List.length_append]; have := litP_len e0 ((P2.take i).drop e0); omega
    refine TP.perm (H' := (([Ent.mk g8 54 ([int .i64 1, int .i64 (i : Int), int .i64 (q : Int), int .i64 (nn : Int), slice none 0 0]) 5] ++ Hd1) ++ Hs1)) (by show ([Ent.mk g8 54 ([int .i64 1, int .i64 (i : Int), int .i64 (q : Int), int .i64 (nn : Int), slice none 0 0]) 5] ++ (Hs1 ++ Hd1)).Perm _; rw [List.append_assoc]; exact List.Perm.append_left _ List.perm_append_comm) ?_
    refine TP.appendS (H0 := [Ent.mk g8 54 ([int .i64 1, int .i64 (i : Int), int .i64 (q : Int), int .i64 (nn : Int), slice none 0 0]) 5] ++ Hd1) (He := Hs1) (qA rfl) rfl rfl Tryz.underlying24 mk54 rfl (by decide) rfl rfl (s := 5) (nn := Cs1.length) (m := 1) (cs := flatC Cs1) (news := cellsC ⟨1, (i : Int), (q : Int), (nn : Int), none, 0, 0, []⟩) hS1 rfl (fun w hs => lies_srcV (hs.has (Ent.mk g8 54 ([int .i64 1, int .i64 (i : Int), int .i64 (q : Int), int .i64 (nn : Int), slice none 0 0]) 5) (by simp))) (by intro u hu; exact flatC_one' [⟨1, (i : Int), (q : Int), (nn : Int), none, 0, 0, []⟩] u (by rw [flatC_one]; exact hu)) (by unfold maxLen; omega) (by omega) (fun v3 Hs3 hS3 => ?_)
    obtain ⟨A3, c3, hv3, hc31, hc32⟩ := hS3.form
    subst hv3
    have hF3 : Fresh B0 (Hd1 ++ Hs3) := qx hD1.1 hS3.new
    refine TP.last1 (qA rfl) rfl rfl size24 rfl rfl rfl (i := 2) rfl rfl (by simp [] <;> omega) (cs' := [slice A3 (((Cs1.length + 1))) c3]) (rfl) (H' := [⟨g7, 68, [Value.func (.func 73) #[] #[.pointer (some ⟨gm, 0, none⟩), .pointer (some ⟨gf, 0, none⟩)]], 1⟩, ⟨g6, 3, [int .i64 (e0 : Int)], 1⟩, ⟨g5, 24, [slice A3 (((Cs1.length + 1))) c3], 1⟩, ⟨g4, 26, [int .i64 0, int .i64 0] ++ ((List.replicate 64 0).map (int .u8) ++ ([slice none 0 0])), 67⟩, ⟨g3, 3, [int .i64 (s : Int)], 1⟩, ⟨g2, 22, [slice (some ⟨b2, o2, none⟩) m2 c2], 1⟩, ⟨g1, 22, [slice (some ⟨bo, oo, none⟩) mo co], 1⟩, ⟨g8, 54, [int .i64 1, int .i64 (i : Int), int .i64 (q : Int), int .i64 (nn : Int), slice none 0 0], 5⟩] ++ (Hd1 ++ Hs3)) rfl ?_
    refine gx ?_
    refine qC [8, 10, 13] ?_
    iterate 3 refine gx ?_
    refine qB (qA rfl) rfl (qQ rfl rfl rfl (r := ((i : Int) + (nn : Int))) (w64 (by omega) (by omega))) ?_
    refine qv (qA rfl) rfl rfl size3 rfl rfl rfl (i := 1) rfl rfl (by simp [] <;> omega) (cs' := [int .i64 ((i : Int) + (nn : Int))]) (rfl) (H' := [⟨g7, 68, [Value.func (.func 73) #[] #[.pointer (some ⟨gm, 0, none⟩), .pointer (some ⟨gf, 0, none⟩)]], 1⟩, ⟨g6, 3, [int .i64 ((i : Int) + (nn : Int))], 1⟩, ⟨g5, 24, [slice A3 (((Cs1.length + 1))) c3], 1⟩, ⟨g4, 26, [int .i64 0, int .i64 0] ++ ((List.replicate 64 0).map (int .u8) ++ ([slice none 0 0])), 67⟩, ⟨g3, 3, [int .i64 (s : Int)], 1⟩, ⟨g2, 22, [slice (some ⟨b2, o2, none⟩) m2 c2], 1⟩, ⟨g1, 22, [slice (some ⟨bo, oo, none⟩) mo co], 1⟩, ⟨g8, 54, [int .i64 1, int .i64 (i : Int), int .i64 (q : Int), int .i64 (nn : Int), slice none 0 0], 5⟩] ++ (Hd1 ++ Hs3)) rfl ?_
    iterate 2 refine gx ?_
    exact TE.roundX (⟨i + nn, slice A3 (Cs1.length + 1) c3, (ps ++ litP e0 ((P2.take i).drop e0)) ++ [(1, (i : Int), (q : Int), (nn : Int), [])], Hs3 ++ Hd1⟩ : MkS) ⟨by show GI B P2 (s : Int) (i + 1) (i + nn) _; rw [hnn]; exact hGI.copy (by omega) (by omega) hmq, ⟨Cs1 ++ [⟨1, (i : Int), (q : Int), (nn : Int), none, 0, 0, []⟩], Hs3, Hd1, by rw [List.map_append, hCv1]; rfl, ms_add hCm1 rfl, rfl, by rw [List.length_append, flatC_app, flatC_one]; exact hS3, hD1.addC (by unfold NumC; dsimp only; omega)⟩, by simp only [List.length_append, List.length_singleton]; have := litP_len e0 ((P2.take i).drop e0); omega⟩ (qx hS3.new hD1.1) (fun w h => roundx_keep (Hc := [Ent.mk g7 68 ([Value.func (.func 73) #[] #[.pointer (some ⟨gm, 0, none⟩), .pointer (some ⟨gf, 0, none⟩)]]) 1, Ent.mk g6 3 ([int .i64 ((i : Int) + (nn : Int))]) 1, Ent.mk g5 24 ([slice A3 (((Cs1.length + 1))) c3]) 1, Ent.mk g4 26 ([int .i64 0, int .i64 0] ++ ((List.replicate 64 0).map (int .u8) ++ ([slice none 0 0]))) 67, Ent.mk g3 3 ([int .i64 (s : Int)]) 1, Ent.mk g2 22 ([slice (some ⟨b2, o2, none⟩) m2 c2]) 1, Ent.mk g1 22 ([slice (some ⟨bo, oo, none⟩) mo co]) 1]) (d := Ent.mk g8 54 ([int .i64 1, int .i64 (i : Int), int .i64 (q : Int), int .i64 (nn : Int), slice none 0 0]) 5) h (by assumption))
 ·obtain ⟨e0, v, ps, He⟩ := x
  obtain ⟨hGI, hL, hpl⟩ := hC
  dsimp only at hGI hL hpl hF hB ⊢
  have hwB0' : St w [⟨g7, 68, [Value.func (.func 73) #[] #[.pointer (some ⟨gm, 0, none⟩), .pointer (some ⟨gf, 0, none⟩)]], 1⟩, ⟨g6, 3, [int .i64 (e0 : Int)], 1⟩, ⟨g5, 24, [v], 1⟩, ⟨g4, 26, [int .i64 0, int .i64 0] ++ ((List.replicate 64 0).map (int .u8) ++ ([slice none 0 0])), 67⟩, ⟨g3, 3, [int .i64 k], 1⟩, ⟨g2, 22, [slice A2 m2 c2], 1⟩, ⟨g1, 22, [slice Ao mo co], 1⟩] B0 := hwB.rebase hB (qH (by first | assumption | (dsimp only; omega)) (qH (by first | assumption | (dsimp only; omega)) (qH (by first | assumption | (dsimp only; omega)) (qH (by first | assumption | (dsimp only; omega)) (qH (by first | assumption | (dsimp only; omega)) (qH (by first | assumption | (dsimp only; omega)) (qH (by first | assumption | (dsimp only; omega)) qY)))))))
  have hfrC : ∀ e ∈ ([⟨g7, 68, [Value.func (.func 73) #[] #[.pointer (some ⟨gm, 0, none⟩), .pointer (some ⟨gf, 0, none⟩)]], 1⟩, ⟨g6, 3, [int .i64 (e0 : Int)], 1⟩, ⟨g5, 24, [v], 1⟩, ⟨g4, 26, [int .i64 0, int .i64 0] ++ ((List.replicate 64 0).map (int .u8) ++ ([slice none 0 0])), 67⟩, ⟨g3, 3, [int .i64 k], 1⟩, ⟨g2, 22, [slice A2 m2 c2], 1⟩, ⟨g1, 22, [slice Ao mo co], 1⟩] : List Ent), w.heap.size ≤ e.g := (qH (by first | assumption | (dsimp only; omega)) (qH (by first | assumption | (dsimp only; omega)) (qH (by first | assumption | (dsimp only; omega)) (qH (by first | assumption | (dsimp only; omega)) (qH (by first | assumption | (dsimp only; omega)) (qH (by first | assumption | (dsimp only; omega)) (qH (by first | assumption | (dsimp only; omega)) qY)))))))
  have hwB : St w [] B0 := zG [⟨g7, 68, [Value.func (.func 73) #[] #[.pointer (some ⟨gm, 0, none⟩), .pointer (some ⟨gf, 0, none⟩)]], 1⟩, ⟨g6, 3, [int .i64 (e0 : Int)], 1⟩, ⟨g5, 24, [v], 1⟩, ⟨g4, 26, [int .i64 0, int .i64 0] ++ ((List.replicate 64 0).map (int .u8) ++ ([slice none 0 0])), 67⟩, ⟨g3, 3, [int .i64 k], 1⟩, ⟨g2, 22, [slice A2 m2 c2], 1⟩, ⟨g1, 22, [slice Ao mo co], 1⟩] (by rw [List.append_nil]; exact hwB0') hfrC
  have hwz := hwB.size
  have hP2l := hs2.1
  have hBl := hsB.1
  have hle := hGI.le
  have hGI2 : GI B P2 k (cntH P2.length k) e0 ps := by rw [hP2l]; exact hGI
  have hcm := cntH_le m2 k
  have h1b := Nat.lt_of_lt_of_le h1 hwB.size
  have hIVb := hIV.keepH hwB (show 0 < _ by omega) qE
  have hKb := hK.keepH hwB (show 2 < _ by omega) qE
  iterate 3 refine gx ?_
  refine TC.heap (H' := [⟨g7, 68, [Value.func (.func 73) #[] #[.pointer (some ⟨gm, 0, none⟩), .pointer (some ⟨gf, 0, none⟩)]], 1⟩, ⟨g6, 3, [int .i64 (e0 : Int)], 1⟩, ⟨g5, 24, [v], 1⟩, ⟨g4, 26, [int .i64 0, int .i64 0] ++ ((List.replicate 64 0).map (int .u8) ++ ([slice none 0 0])), 67⟩, ⟨g3, 3, [int .i64 k], 1⟩, ⟨g2, 22, [slice A2 m2 c2], 1⟩, ⟨g1, 22, [slice Ao mo co], 1⟩] ++ ([] ++ He)) (fun w h => h) ?_
  refine TC.mixB (HB := [Ent.mk g7 68 ([Value.func (.func 73) #[] #[.pointer (some ⟨gm, 0, none⟩), .pointer (some ⟨gf, 0, none⟩)]]) 1, Ent.mk g6 3 ([int .i64 (e0 : Int)]) 1, Ent.mk g5 24 ([v]) 1, Ent.mk g4 26 ([int .i64 0, int .i64 0] ++ ((List.replicate 64 0).map (int .u8) ++ ([slice none 0 0]))) 67, Ent.mk g3 3 ([int .i64 k]) 1, Ent.mk g2 22 ([slice A2 m2 c2]) 1, Ent.mk g1 22 ([slice Ao mo co]) 1]) (H := [] ++ He) (by kernel_rfl) [0, 0, 0, 0, 0, 0, 0, 3, 3, 7] [0, 1, 2, 3, 4, 5, 6, 7, 8, 9] (by kernel_rfl) ?_
  refine TP.stay (qA rfl) rfl (fun H' => qN rfl agg22 rfl (qU (i := 6) (ent := ⟨g1, 22, [slice Ao mo co], 1⟩) (off := 0) rfl rfl (by exact rfl))) ?_
  refine TP.stay (qA rfl) rfl (fun H' => qN rfl agg22 rfl (qU (i := 5) (ent := ⟨g2, 22, [slice A2 m2 c2], 1⟩) (off := 0) rfl rfl (by exact rfl))) ?_
  refine TP.stay (qA rfl) rfl (fun H' => qN rfl agg24 rfl (qU (i := 2) (ent := ⟨g5, 24, [v], 1⟩) (off := 0) rfl rfl (by exact rfl))) ?_
  refine TP.stay (qA rfl) rfl (fun H' => qN rfl agg3 rfl (qU (i := 1) (ent := ⟨g6, 3, [int .i64 (e0 : Int)], 1⟩) (off := 0) rfl rfl (by exact rfl))) ?_
  refine TP.stay (qA rfl) rfl (fun H' => qN rfl agg22 rfl (qU (i := 5) (ent := ⟨g2, 22, [slice A2 m2 c2], 1⟩) (off := 0) rfl rfl (by exact rfl))) ?_
  refine TP.stay (qA rfl) rfl (fun H' => qN rfl agg3 rfl (qU (i := 1) (ent := ⟨g6, 3, [int .i64 (e0 : Int)], 1⟩) (off := 0) rfl rfl (by exact rfl))) ?_
  refine TP.free (qA rfl) rfl (fun _ => zF rfl Tryz.underlying22 size5 rfl (bnd.at_ (l := e0) rfl (by omega)) bnd.dflt (by omega) (by omega) rfl (ln := (m2 - e0)) (cp := (c2 - e0)) (by omega) (by omega)) ?_
  refine TP.call (ι := Value × List Ent) (V := fun y => y.1) (R := fun y => OwnL B0.heap.size 54 y.1 (ps ++ litP e0 (P2.drop e0)) y.2) (H' := fun y => [] ++ y.2) (qA rfl) rfl enters43 rfl rfl (fun w hs => (addlit_c B0 w [Ent.mk g7 68 ([Value.func (.func 73) #[] #[.pointer (some ⟨gm, 0, none⟩), .pointer (some ⟨gf, 0, none⟩)]]) 1, Ent.mk g6 3 ([int .i64 (e0 : Int)]) 1, Ent.mk g5 24 ([v]) 1, Ent.mk g4 26 ([int .i64 0, int .i64 0] ++ ((List.replicate 64 0).map (int .u8) ++ ([slice none 0 0]))) 67, Ent.mk g3 3 ([int .i64 k]) 1, Ent.mk g2 22 ([slice A2 m2 c2]) 1, Ent.mk g1 22 ([slice Ao mo co]) 1] He v ps e0 (cutA A2 c2 e0 1) (m2 - e0) (c2 - e0) (P2.drop e0) (by omega) (by omega) (by omega) (by omega) (by omega) hs hL ((((hs2.at_ (hwB.rebase hs (qx (qH (by first | assumption | (dsimp only; omega)) (qH (by first | assumption | (dsimp only; omega)) (qH (by first | assumption | (dsimp only; omega)) (qH (by first | assumption | (dsimp only; omega)) (qH (by first | assumption | (dsimp only; omega)) (qH (by first | assumption | (dsimp only; omega)) (qH (by first | assumption | (dsimp only; omega)) qY))))))) (fun e he => Nat.le_trans hwz (hF e he)))) (fun b hb => (qa (qD (by show g7 ≠ b; omega) (qD (by show g6 ≠ b; omega) (qD (by show g5 ≠ b; omega) (qD (by show g4 ≠ b; omega) (qD (by show g3 ≠ b; omega) (qD (by show g2 ≠ b; omega) (qD (by show g1 ≠ b; omega) qE))))))) (Fresh.ne hF (Nat.lt_of_lt_of_le hb hwz)))))).toX0.drop (l := e0) (by omega) hm2).src) (hPP.drop' e0)).mono fun e w' ⟨v', He', he, hL', hst⟩ => ⟨(v', He'), he, hL', hst⟩) (fun y hLa => ?_)
  obtain ⟨va, Ha⟩ := y
  dsimp only at hLa ⊢
  have hFa : Fresh B0 Ha := hLa.new
  have hpl2 : (ps ++ litP e0 (P2.drop e0)).length ≤ 601 := by rw [List.length_append]; have := litP_len e0 (P2.drop e0); omega
  rw [hGI2.end_] at hLa hpl2
  obtain ⟨Aa, ca, hva, hca, hca2⟩ := hLa.form
  subst hva
  obtain ⟨Cx, hCx, hCm, hml, hOD⟩ := hLa.ownD
  obtain ⟨nL, hnL⟩ : ∃ nL : Nat, nL = (cmdsL B P2 k).length := ⟨_, rfl⟩
  rw [← hnL] at hLa hca hOD hpl2 ⊢
  have hCl : Cx.length = nL := by rw [hnL, ← hCx, List.length_map]
  refine TP.call (ι := (Option Addr × Nat) × (List CV × List Ent)) (V := fun y => .agg (dV (mo : Int) (m2 : Int) (shaM B) (shaM P2) (slice y.1.1 nL y.1.2)).toArray) (R := fun y => (nL ≤ y.1.2 ∧ y.1.2 ≤ 9223372036854775807) ∧ OwnD B0.heap.size y.1.1 nL y.2.1 y.2.2 ∧ sameE y.2.1 Cx) (H' := fun y => ([] ++ Ha) ++ y.2.2) (qA rfl) rfl enters19 rfl rfl (fun w hs => (desc8_c B P2 Ao A2 mo co m2 c2 Aa nL ca Cx hmo hm2 hco hcm2 (by omega) (by omega) (by omega) hOD.num w (hsB.at_ (hwB.rebase hs (qx (qH (by first | assumption | (dsimp only; omega)) (qH (by first | assumption | (dsimp only; omega)) (qH (by first | assumption | (dsimp only; omega)) (qH (by first | assumption | (dsimp only; omega)) (qH (by first | assumption | (dsimp only; omega)) (qH (by first | assumption | (dsimp only; omega)) (qH (by first | assumption | (dsimp only; omega)) qY))))))) (fun e he => Nat.le_trans hwz (hFa e he)))) (fun b hb => (qa (qD (by show g7 ≠ b; omega) (qD (by show g6 ≠ b; omega) (qD (by show g5 ≠ b; omega) (qD (by show g4 ≠ b; omega) (qD (by show g3 ≠ b; omega) (qD (by show g2 ≠ b; omega) (qD (by show g1 ≠ b; omega) qE))))))) (Fresh.ne hFa (Nat.lt_of_lt_of_le hb hwz))))) (hs2.at_ (hwB.rebase hs (qx (qH (by first | assumption | (dsimp only; omega)) (qH (by first | assumption | (dsimp only; omega)) (qH (by first | assumption | (dsimp only; omega)) (qH (by first | assumption | (dsimp only; omega)) (qH (by first | assumption | (dsimp only; omega)) (qH (by first | assumption | (dsimp only; omega)) (qH (by first | assumption | (dsimp only; omega)) qY))))))) (fun e he => Nat.le_trans hwz (hFa e he)))) (fun b hb => (qa (qD (by show g7 ≠ b; omega) (qD (by show g6 ≠ b; omega) (qD (by show g5 ≠ b; omega) (qD (by show g4 ≠ b; omega) (qD (by show g3 ≠ b; omega) (qD (by show g2 ≠ b; omega) (qD (by show g1 ≠ b; omega) qE))))))) (Fresh.ne hFa (Nat.lt_of_lt_of_le hb hwz))))) (hOD.src (fun e he => hs.has e (by simp [he]))) (hOD.dat (fun e he => hs.has e (by simp [he]))) (cmds_few hCx hCm (by omega) (by omega)) (Nat.lt_of_lt_of_le h1b hs.size) (hIVb.keepH hs (by omega) (qa (qD (by show g7 ≠ 0; omega) (qD (by show g6 ≠ 0; omega) (qD (by show g5 ≠ 0; omega) (qD (by show g4 ≠ 0; omega) (qD (by show g3 ≠ 0; omega) (qD (by show g2 ≠ 0; omega) (qD (by show g1 ≠ 0; omega) qE))))))) (qa qE (hFa.ne (by omega))))) (hKb.keepH hs h1b (qa (qD (by show g7 ≠ 2; omega) (qD (by show g6 ≠ 2; omega) (qD (by show g5 ≠ 2; omega) (qD (by show g4 ≠ 2; omega) (qD (by show g3 ≠ 2; omega) (qD (by show g2 ≠ 2; omega) (qD (by show g1 ≠ 2; omega) qE))))))) (qa qE (hFa.ne h1b))))).mono fun e w' ⟨A', c', Fs, Hw, he, hc, ho, hsm, hw⟩ => ⟨((A', c'), (Fs, Hw)), he, ⟨hc, ho.mono hs.size, hsm⟩, by rw [← List.append_assoc]; exact st_call hs hw ho.1⟩) (fun y hR => ?_)
  obtain ⟨⟨As, cs⟩, Fs, Hw⟩ := y
  obtain ⟨hcs, hos, hsm⟩ := hR
  dsimp only at hcs hos hsm ⊢
  have hFw : Fresh B0 Hw := hos.1
  refine TP.lastW (qA rfl) rfl rfl size26 rfl (vs := dV (mo : Int) (m2 : Int) (shaM B) (shaM P2) (slice As nL cs)) rfl (by simp [(shaM_len B), (shaM_len P2)]) (ones_app (by simp [Value.oneCell']) (ones_app zB (ones_app zB (by simp [Value.oneCell'])))) (i := 3) (ent := ⟨g4, 26, [int .i64 0, int .i64 0] ++ ((List.replicate 64 0).map (int .u8) ++ ([slice none 0 0])), 67⟩) rfl rfl (by simp []) (H' := [⟨g7, 68, [Value.func (.func 73) #[] #[.pointer (some ⟨gm, 0, none⟩), .pointer (some ⟨gf, 0, none⟩)]], 1⟩, ⟨g6, 3, [int .i64 (e0 : Int)], 1⟩, ⟨g5, 24, [v], 1⟩, ⟨g4, 26, dV (mo : Int) (m2 : Int) (shaM B) (shaM P2) (slice As nL cs), 67⟩, ⟨g3, 3, [int .i64 k], 1⟩, ⟨g2, 22, [slice A2 m2 c2], 1⟩, ⟨g1, 22, [slice Ao mo co], 1⟩] ++ (([] ++ Ha) ++ Hw)) rfl ?_
  iterate 2 refine gx ?_
  refine TE.markR (n := ⟨_, [], .plain⟩) (w0 := w) (gs := [g7, g6, g5, g4, g3, g2, g1]) ⟨Nat.le_trans hwz0 hlo, hD, fun x hx => by have := hgl x hx; omega⟩ hwB0' hfrC ?_ ?_ (.inl rfl)
  ·intro e he
   rcases List.mem_append.1 he with he | he
   ·exact .inr (by simp only [List.mem_cons, List.not_mem_nil, or_false] at he; rcases he with rfl | rfl | rfl | rfl | rfl | rfl | rfl <;> simp)
   ·exact .inl ((qx (qx qY hFa) hFw) e he)
  exact qo rfl agg26 size26 rfl (vs := dV (mo : Int) (m2 : Int) (shaM B) (shaM P2) (slice As nL cs)) (by simp [(shaM_len B), (shaM_len P2)]) (qW (i := 3) (ent := ⟨g4, 26, dV (mo : Int) (m2 : Int) (shaM B) (shaM P2) (slice As nL cs), 67⟩) rfl rfl rfl) (fun w2 hs => ⟨As, cs, nL, Fs, Hw, rfl, hcs, hos.mono hwz, ⟨by rw [← hCx]; exact hsm.c, fun x hx => mk_m hsm hCm x hx⟩, hsm.len.trans hCl, mk_drop (X := [Ent.mk g7 68 ([Value.func (.func 73) #[] #[.pointer (some ⟨gm, 0, none⟩), .pointer (some ⟨gf, 0, none⟩)]]) 1, Ent.mk g6 3 ([int .i64 (e0 : Int)]) 1, Ent.mk g5 24 ([v]) 1, Ent.mk g4 26 (dV (mo : Int) (m2 : Int) (shaM B) (shaM P2) (slice As nL cs)) 67, Ent.mk g3 3 ([int .i64 k]) 1, Ent.mk g2 22 ([slice A2 m2 c2]) 1, Ent.mk g1 22 ([slice Ao mo co]) 1]) hs (qH (by first | assumption | (dsimp only; omega)) (qH (by first | assumption | (dsimp only; omega)) (qH (by first | assumption | (dsimp only; omega)) (qH (by first | assumption | (dsimp only; omega)) (qH (by first | assumption | (dsimp only; omega)) (qH (by first | assumption | (dsimp only; omega)) (qH (by first | assumption | (dsimp only; omega)) qY))))))) (fun e he => Nat.le_trans hwz (hFa e he))⟩)
/-
 The new file, copied together command by command.
-/
section
variable {P : Program} {ops : Array Oper} {Q : Exit → Act → World → Prop} {n : Sz} {w0 : World} {L L' : List (Nat × Value)} {HB H : List Ent}
variable {o : Oper} {rest : List Oper} {v u : Value} {x y z : Operand} {k m j : Nat} {t t' e : TypeId} {ks : List Nat} {kd : IntKind}
theorem TP.copyP {i g off dl dc sl sc : Nat} {ent : Ent} {A : Option Addr} {B : List Int} (hg : Wants n ops L o) (hi' : inside n o.dst = true) (ho : o.op = .call { callee := .builtin .copy, args := #[x, y], argTypes := #[t, t'] })
  (h1 : P.underlying t = some (.slice e)) (hsz : (P.info? e).map (·.size) = some 1)
  (hx : ev L x = some (.slice (some ⟨g, off, none⟩) dl dc)) (hy : ev L y = some (.slice A sl sc)) (hi : (HB ++ H)[i]? = some ent) (he : ent.g = g) (hoff : off + dl ≤ ent.cs.length)
  (hsrc : ∀ w, St w0 (HB ++ H) w → Src w A sl kd B) {c : Nat} (hc : min sl dl = c)
  {cs' : List Value} (hcs : ent.cs.take off ++ (B.take c).map (int kd) ++ ent.cs.drop (off + c) = cs') {H' : List Ent} (hH : (HB ++ H).set i ⟨ent.g, ent.t, cs', ent.tot⟩ = HB ++ H')
  (hr : TP P ops Q n w0 HB ks rest (put L o.dst (.int .i64 c)) H') : TP P ops Q n w0 HB (3 :: ks) (o :: rest) L H := by
 refine TP.value (ι := Unit) (V := fun _ => .int .i64 c) (R := fun _ => True) (H' := fun _ => H') hg hi' (fun a w hf hs => ?_) fun _ _ => hr
 subst hc; subst hcs
 have hB := hsrc w hs
 have hlen : ((B.take (min sl dl)).map (int kd)).length = min sl dl := by simp; have := hB.1; omega
 obtain ⟨w', hrun, hs'⟩ := run_storeCells (P := P) (i := i) (g := g) (ent := ent) (off := off) ((B.take (min sl dl)).map (int kd)) 0 (HB ++ H) ent w he hs hi zB (by rw [hlen]; omega)
 have hrun' : (execOp a.eval o).run P w = .ok (.value (.int .i64 (min sl dl : Nat))) w' := by
  simp only [execOp, ho, resolve, invoke, builtin, Sem.run_bind, Sem.run_pure, Result.andThen_ok, List.map_toArray, List.map_cons, List.map_nil, hf.eval hx, hf.eval hy]
  have h5 : (Builtin.copy_ #[t, t'] o.type #[.slice (some ⟨g, off, none⟩) dl dc, .slice A sl sc]).run P w = .ok (.int .i64 (min sl dl : Nat)) w' := by
   unfold Builtin.copy_
   simp only [List.getElem?_toArray, List.getElem?_cons_zero, List.getElem?_cons_succ, Sem.run_bind, run_under h1, Result.andThen_ok, Builtin.lenOf, Sem.run_pure, run_size hsz]
   have h6 := run_cells (P := P) (c := sc) hB (i := Nat.min sl dl) (Nat.min_le_left _ _)
   rw [h6]
   simp only [Result.andThen_ok]
   have h7 : (storeCells ⟨g, off, none⟩ ((B.take (Nat.min sl dl)).map (int kd)) 0).run P w = .ok () w' := hrun
   rw [h7]
   rfl
  rw [h5]; rfl
 rw [hlen] at hs'
 refine ⟨(), w', hrun', trivial, ?_⟩
 rw [← hH]; simpa using hs'
end
def contV (Ao : Option Addr) (co : Nat) (x : CV) : Value := if x.k = 1 then .slice (cutA Ao co x.f.toNat 1) x.l.toNat (co - x.f.toNat) else .slice x.A x.m x.c
theorem vkinds {o n : Int} {Cs : List CV} (h : ValidC o n Cs) {i : Nat} {x : CV} (hx : Cs[i]? = some x) : (x.k = 1 ∧ 0 ≤ x.f ∧ 1 ≤ x.l ∧ x.f + x.l ≤ o ∧ x.m = 0) ∨ (x.k = 2 ∧ x.f = 0 ∧ x.l = 0 ∧ 1 ≤ x.m) := by
 have h1 := h.single i x hx
 have h2 : codeV x.k x.t x.f x.l x.m = 0 := by
  apply Classical.byContradiction
  intro hne
  unfold singleV at h1; rw [if_neg hne] at h1; exact hne h1
 unfold singleV at h1; rw [if_pos h2] at h1
 rcases codeV0 h2 with hk | hk
 ·left
  rw [hk] at h2
  obtain ⟨a1, a2, a3, a4⟩ := codeV1.1 h2
  unfold vld at a3 a4
  by_cases hc : x.k = 1 ∧ o < x.f + x.l
  ·rw [if_pos hc] at h1; omega
  ·exact ⟨hk, by omega, by omega, by omega, a2⟩
 ·right
  rw [hk] at h2
  obtain ⟨a1, a2, a3, a4⟩ := codeV2.1 h2
  exact ⟨hk, a2, a3, by omega⟩
theorem vokp {o n : Int} {Cs : List CV} {B : List Int} (h : ValidC o n Cs) {i : Nat} {x : CV} (hx : Cs[i]? = some x) (hm : x.m = x.B.length) (hB : (B.length : Int) = o) : okPC B (valC x) := by
 unfold okPC valC
 dsimp only
 rcases vkinds h hx with h1 | h1
 ·exact .inl ⟨h1.1, h1.2.1, h1.2.2.1, by omega, List.length_eq_zero_iff.1 (by omega)⟩
 ·exact .inr ⟨h1.1, h1.2.1, h1.2.2.1, fun e => by rw [e] at hm; simp at hm; omega⟩
theorem seg_length {B : List Int} {x : CV} (h : okPC B (valC x)) (hm : x.m = x.B.length) : ((segP B (valC x)).length : Int) = (tg x).2 := by
 rw [seg_at h hm, List.length_map, List.length_range]
 unfold okPC valC at h
 unfold tg lenV
 dsimp only at h ⊢
 rcases h with h | h
 ·rw [if_pos h.1]; omega
 ·rw [if_neg (by omega)]; omega
theorem seg_get {B : List Int} {x : CV} (h : okPC B (valC x)) (hm : x.m = x.B.length) {p : Int} (hp : hasB (tg x) p) : (segP B (valC x))[(p - x.t).toNat]? = some (atV B x p) := by
 rw [seg_at h hm]
 have h1 : x.t ≤ p := hp.1
 have h2 : p < x.t + (tg x).2 := hp.2
 rw [List.getElem?_map, List.getElem?_range (by omega)]
 simp only [Option.map_some]
 congr 2
 omega
def putI (B : List Int) (Cs : List CV) (n : Int) (i : Nat) (L : List Int) : Prop := L.length = n.toNat ∧ ∀ (j : Nat) (x : CV) (p : Int), j < i → Cs[j]? = some x → hasB (tg x) p → L[p.toNat]? = some (atV B x p)
theorem putI.zero (B : List Int) (Cs : List CV) (n : Int) : putI B Cs n 0 (List.replicate n.toNat 0) := ⟨by simp, fun j x p hj => absurd hj (Nat.not_lt_zero j)⟩
theorem putI.next {B : List Int} {Cs : List CV} {o n : Int} {i : Nat} {L : List Int} {x : CV} (h : putI B Cs n i L) (hv : ValidC o n Cs) (hx : Cs[i]? = some x) (hm : x.m = x.B.length) (hB : (B.length : Int) = o) :
  putI B Cs n (i + 1) (L.take x.t.toNat ++ segP B (valC x) ++ L.drop (x.t.toNat + (segP B (valC x)).length)) := by
 have hok := vokp hv hx hm hB
 have hsl := seg_length hok hm
 have h3 := hv.tidy.1 _ (List.mem_map_of_mem (f := tg) (List.mem_of_getElem? hx))
 unfold okT at h3
 have e1 : (tg x).1 = x.t := rfl
 rw [e1] at h3
 have hLl := h.1
 have hlt : (L.take x.t.toNat).length = x.t.toNat := by rw [List.length_take]; omega
 refine ⟨by simp only [List.length_append, List.length_drop, hlt]; omega, fun j y p hj hy hp => ?_⟩
 have hp1 : y.t ≤ p := hp.1
 have hp2 : p < y.t + (tg y).2 := hp.2
 have h4 := hv.tidy.1 _ (List.mem_map_of_mem (f := tg) (List.mem_of_getElem? hy))
 unfold okT at h4
 have e2 : (tg y).1 = y.t := rfl
 rw [e2] at h4
 by_cases hji : j = i
 ·subst hji
  rw [hx] at hy; cases hy
  rw [List.append_assoc, List.getElem?_append_right (by rw [hlt]; omega), hlt, List.getElem?_append_left (by omega)]
  have := seg_get hok hm hp
  rw [← this]
  congr 1
  omega
 ·have hap : apartT (tg y) (tg x) := by
   have hil := (List.getElem?_eq_some_iff.1 hx).1
   have hjl := (List.getElem?_eq_some_iff.1 hy).1
   have := List.pairwise_iff_getElem.1 hv.tidy.2 j i (by simpa using hjl) (by simpa using hil) (by omega)
   simp only [List.getElem_map, (List.getElem?_eq_some_iff.1 hx).2, (List.getElem?_eq_some_iff.1 hy).2] at this
   exact this
  have h5 := h.2 j y p (by omega) hy hp
  unfold apartT at hap
  rw [e1, e2] at hap
  rcases hap with hap | hap
  ·rw [List.append_assoc, List.getElem?_append_left (by rw [hlt]; omega), List.getElem?_take, if_pos (by omega)]; exact h5
  ·rw [List.getElem?_append_right (by simp only [List.length_append, hlt]; omega)]
   simp only [List.length_append, hlt]
   rw [List.getElem?_drop]
   rw [← h5]
   congr 1
   omega
theorem putI.done {B : List Int} {Cs : List CV} {o n : Int} {i : Nat} {L : List Int} (h : putI B Cs n i L) (hv : ValidC o n Cs) (hi : Cs.length ≤ i) : L = newB B Cs n := by
 have hn := hv.len
 unfold okLen at hn
 apply List.ext_getElem?
 intro q
 by_cases hq : (q : Int) < n
 ·obtain ⟨j, x, h1, h2, h3⟩ := hv.find (p := (q : Int)) (by omega) hq
  have h4 := h.2 j x q (by have := (List.getElem?_eq_some_iff.1 h2).1; omega) h2 h3
  rw [Int.toNat_natCast] at h4
  rw [h4, newB_get hq, byteI_of hv.tidy h2 h3]
 ·rw [List.getElem?_eq_none (by have := h.1; omega), List.getElem?_eq_none (by rw [newB_len]; omega)]
theorem cutA_src {w : World} {A : Option Addr} {m c q l : Nat} {kd : IntKind} {B : List Int} (h : Src w A m kd B) (hmc : m ≤ c) (hl : 1 ≤ l) (hq : q + l ≤ m) : Src w (cutA A c q 1) l kd ((B.drop q).take l) := by
 obtain ⟨b, o, rfl, hb, hr⟩ := h.2.resolve_left (by omega)
 rw [cut_is (b := b) (off := o) (cap := c) (l := q) (size := 1) (by omega) rfl, Nat.mul_one]
 exact h.cut (l := q) (n := l) hq
theorem contV_src {w : World} {Ao : Option Addr} {mo co : Nat} {o n : Int} {B : List Int} {Cs : List CV} {i : Nat} {x : CV} (hv : ValidC o n Cs) (hx : Cs[i]? = some x) (hsB : Src w Ao mo .u8 B) (ho : o = mo) (hmo : mo ≤ co) (hco : co ≤ 9223372036854775807) (hsx : Src w x.A x.m .u8 x.B) (hn : NumC x) :
  ∃ A m c, contV Ao co x = .slice A m c ∧ Src w A m .u8 (segP B (valC x)) ∧ m ≤ c ∧ c ≤ 9223372036854775807 ∧ (m : Int) = (tg x).2 := by
 unfold NumC at hn
 unfold contV segP tg lenV valC
 dsimp only
 rcases vkinds hv hx with h | h
 ·rw [if_pos h.1, if_pos h.1, if_pos h.1]
  exact ⟨_, _, _, rfl, cutA_src hsB hmo (by omega) (by omega), by omega, by omega, by omega⟩
 ·rw [if_neg (by omega), if_neg (by omega), if_neg (by omega)]
  exact ⟨_, _, _, rfl, hsx, by omega, by omega, rfl⟩
/-
 The code of layer 8: fits, content.
-/
theorem enters48 : Enters Tryz.prog 48 := ⟨_, Tryz.func48, by kernel_rfl, by kernel_rfl⟩
theorem fits8_c (Ao : Option Addr) (mo co : Nat) (hco : co ≤ 9223372036854775807) (hmo : mo ≤ co) (o n : Int) (H1 H2 : List Int) (hH1 : H1.length = 32) (hH2 : H2.length = 32) (A : Option Addr) (m c : Nat) (Cs : List CV) (hmm : m ≤ 1000000000) (hN : NumsC Cs) (w : World) (hC : SrcC w A m Cs) (hD : DatC w Cs) (bo : -9223372036854775808 ≤ o ∧ o ≤ 9223372036854775807) (bn : -9223372036854775808 ≤ n ∧ n ≤ 9223372036854775807)  : Calls Tryz.prog 28 #[.slice Ao mo co, .agg (dV o n H1 H2 (slice A m c)).toArray] w fun e w' => e = .returned (.bool (decide (o = (mo : Int) ∧ (faultI o n Cs).1 = 0))) ∧ St w [] w' := by
 refine qM (args := [.slice Ao mo co, .agg (dV o n H1 H2 (slice A m c)).toArray]) Tryz.func28 rfl Tryz.ntmps28 (by simp) ?_
 refine qC [0, 1] ?_
 iterate 2 refine gx ?_
 refine qr (qA rfl) rfl rfl rfl (cs := dV o n H1 H2 (slice A m c)) (by simp [Value.cells]) (tot := 67) (by simp [hH1, hH2]) (fun g1 hg1 => ?_)
 iterate 9 refine gx ?_
 by_cases c1 : o = (mo : Int)
 ·refine qB (qA rfl) rfl (qS (qg rfl rfl rfl) c1) ?_
  iterate 2 refine gx ?_
  by_cases c2 : (faultI o n Cs).1 = 0
  ·refine qL (qI rfl rfl rfl) rfl enters48 rfl rfl (v := .bool true) (fun w hs => (dvalid_c o n H1 H2 hH1 hH2 A m c Cs hmm hN w (hC.at_ hs (fun b hb => (qD (by show g1 ≠ b; omega) qE))) (hD.at_ hs (fun b hb => (qD (by show g1 ≠ b; omega) qE))) bo bn).mono fun e w' h => by rw [decide_eq_true (p := (faultI o n Cs).1 = 0) c2] at h; exact h) ?_
   iterate 5 refine gx ?_
   exact qJ rfl rfl (fun w hs => ⟨dec_t (by first | exact ⟨c1, c2⟩ | exact fun h => c2 h.2 | exact fun h => c1 h.1), (hs.drop (by assumption))⟩)
  ·refine qL (qI rfl rfl rfl) rfl enters48 rfl rfl (v := .bool false) (fun w hs => (dvalid_c o n H1 H2 hH1 hH2 A m c Cs hmm hN w (hC.at_ hs (fun b hb => (qD (by show g1 ≠ b; omega) qE))) (hD.at_ hs (fun b hb => (qD (by show g1 ≠ b; omega) qE))) bo bn).mono fun e w' h => by rw [decide_eq_false (p := (faultI o n Cs).1 = 0) c2] at h; exact h) ?_
   iterate 5 refine gx ?_
   exact qJ rfl rfl (fun w hs => ⟨dec_f (by first | exact ⟨c1, c2⟩ | exact fun h => c2 h.2 | exact fun h => c1 h.1), (hs.drop (by assumption))⟩)
 ·refine qB (qA rfl) rfl (qR (qg rfl rfl rfl) c1) ?_
  iterate 8 refine gx ?_
  exact qJ rfl rfl (fun w hs => ⟨dec_f (by first | exact ⟨c1, c2⟩ | exact fun h => c2 h.2 | exact fun h => c1 h.1), (hs.drop (by assumption))⟩)
theorem content1_c (Ao : Option Addr) (mo co : Nat) (hmo : mo ≤ co) (hco : co ≤ 9223372036854775807) (t : Int) (fn ln : Nat) (A : Option Addr) (m c : Nat) (hl : 1 ≤ ln) (hq : fn + ln ≤ mo) (w : World) : Calls Tryz.prog 29 #[.slice Ao mo co, .agg ([int .i64 1, int .i64 t, int .i64 (fn : Int), int .i64 (ln : Int), slice A m c]).toArray] w fun e w' => e = .returned (.slice (cutA Ao co fn 1) ln (co - fn)) ∧ St w [] w' := by
 refine qM (args := [.slice Ao mo co, .agg ([int .i64 1, int .i64 t, int .i64 (fn : Int), int .i64 (ln : Int), slice A m c]).toArray]) Tryz.func29 rfl Tryz.ntmps29 (by simp) ?_
 refine qC [0, 1] ?_
 iterate 2 refine gx ?_
 refine qc (fun g1 hg1 => ?_)
 iterate 7 refine gx ?_
 refine qL (qA rfl) rfl enters49 rfl rfl (v := .tuple #[.agg ([int .i64 (fn : Int), int .i64 (ln : Int)]).toArray, .bool true]) (fun w hs => source1 t (fn : Int) (ln : Int) A m c w) ?_
 iterate 3 refine gx ?_
 refine qZ (fun g2 hg2 => ?_)
 iterate 4 refine gx ?_
 refine qC [0, 3, 4, 5, 6] ?_
 iterate 5 refine gx ?_
 refine qb rfl ?_
 iterate 9 refine gx ?_
 refine qB (qA rfl) rfl (qQ rfl rfl rfl (r := ((fn : Int) + (ln : Int))) (w64 (by omega) (by omega))) ?_
 refine qB (qA rfl) rfl (zF rfl Tryz.underlying22 size5 rfl (bnd.at_ (l := fn) rfl (by omega)) (bnd.at_ (l := (fn + ln)) rfl (by omega)) (by omega) (by omega) rfl (ln := ln) (cp := (co - fn)) (by omega) (by omega)) ?_
 iterate 5 refine gx ?_
 exact qJ rfl rfl (fun w hs => ⟨rfl, ((hs.drop (by assumption)).drop (by assumption))⟩)
theorem content2_c (Ao : Option Addr) (mo co : Nat) (hmo : mo ≤ co) (hco : co ≤ 9223372036854775807) (t f l : Int) (A : Option Addr) (m c : Nat) (w : World) : Calls Tryz.prog 29 #[.slice Ao mo co, .agg ([int .i64 2, int .i64 t, int .i64 f, int .i64 l, slice A m c]).toArray] w fun e w' => e = .returned (.slice A m c) ∧ St w [] w' := by
 refine qM (args := [.slice Ao mo co, .agg ([int .i64 2, int .i64 t, int .i64 f, int .i64 l, slice A m c]).toArray]) Tryz.func29 rfl Tryz.ntmps29 (by simp) ?_
 refine qC [0, 1] ?_
 iterate 2 refine gx ?_
 refine qc (fun g1 hg1 => ?_)
 iterate 7 refine gx ?_
 refine qL (qA rfl) rfl enters49 rfl rfl (v := .tuple #[.agg ([int .i64 0, int .i64 0]).toArray, .bool false]) (fun w hs => source2 t f l A m c w) ?_
 iterate 3 refine gx ?_
 refine qZ (fun g2 hg2 => ?_)
 iterate 4 refine gx ?_
 refine qC [0, 3, 4, 5, 6] ?_
 iterate 5 refine gx ?_
 refine qV rfl ?_
 iterate 10 refine gx ?_
 exact qJ rfl rfl (fun w hs => ⟨rfl, ((hs.drop (by assumption)).drop (by assumption))⟩)
theorem content_c (Ao : Option Addr) (mo co : Nat) (hmo : mo ≤ co) (hco : co ≤ 9223372036854775807) (o n : Int) (Cs : List CV) (i : Nat) (x : CV) (hv : ValidC o n Cs) (hx : Cs[i]? = some x) (ho : o = mo) (w : World) : Calls Tryz.prog 29 #[.slice Ao mo co, .agg ([int .i64 x.k, int .i64 x.t, int .i64 x.f, int .i64 x.l, slice x.A x.m x.c]).toArray] w fun e w' => e = .returned (contV Ao co x) ∧ St w [] w' := by
 unfold contV
 rcases vkinds hv hx with h | h
 ·rw [if_pos h.1]
  obtain ⟨k, t, f, l, A, m, c, D⟩ := x
  dsimp only at h ⊢
  obtain ⟨rfl, h2, h3, h4, h5⟩ := h
  obtain ⟨fn, rfl⟩ : ∃ fn : Nat, f = fn := ⟨f.toNat, by omega⟩
  obtain ⟨ln, rfl⟩ : ∃ ln : Nat, l = ln := ⟨l.toNat, by omega⟩
  simp only [Int.toNat_natCast]
  exact content1_c Ao mo co hmo hco t fn ln A m c (by omega) (by omega) w
 ·rw [if_neg (by omega)]
  obtain ⟨k, t, f, l, A, m, c, D⟩ := x
  dsimp only at h ⊢
  obtain ⟨rfl, h2⟩ := h
  exact content2_c Ao mo co hmo hco t f l A m c w
/-
 The code of layer 8: Apply.
-/
theorem enters28 : Enters Tryz.prog 28 := ⟨_, Tryz.func28, by kernel_rfl, by kernel_rfl⟩
theorem enters29 : Enters Tryz.prog 29 := ⟨_, Tryz.func29, by kernel_rfl, by kernel_rfl⟩
theorem apply8_yes (B : List Int) (Ao : Option Addr) (mo co : Nat) (hmo : mo ≤ co) (hco : co ≤ 9223372036854775807) (o n : Int) (H1 H2 : List Int) (hH1 : H1.length = 32) (hH2 : H2.length = 32) (A : Option Addr) (m c : Nat) (Cs : List CV) (hmm : m ≤ 1000000000) (hN : NumsC Cs) (w : World) (hC : SrcC w A m Cs) (hD : DatC w Cs) (hsB : Src w Ao mo .u8 B) (bo : -9223372036854775808 ≤ o ∧ o ≤ 9223372036854775807) (bn : -9223372036854775808 ≤ n ∧ n ≤ 9223372036854775807) (hft : o = (mo : Int) ∧ (faultI o n Cs).1 = 0) (hn3 : n ≤ 3000) : Calls Tryz.prog 11 #[.slice Ao mo co, .agg (dV o n H1 H2 (slice A m c)).toArray] w fun e w' => ∃ g, e = .returned (.slice (some ⟨g, 0, none⟩) n.toNat n.toNat) ∧ w.heap.size ≤ g ∧ St w [⟨g, 5, (newB B Cs n).map (int .u8), n.toNat⟩] w' := by
 have hVC : ValidC o n Cs := validC hft.2
 have ho := hft.1
 have hlen := hVC.len
 unfold okLen at hlen
 refine qM (args := [.slice Ao mo co, .agg (dV o n H1 H2 (slice A m c)).toArray]) Tryz.func11 rfl Tryz.ntmps11 (by simp) ?_
 refine qC [0, 1] ?_
 iterate 2 refine gx ?_
 refine qr (qA rfl) rfl rfl rfl (cs := dV o n H1 H2 (slice A m c)) (by simp [Value.cells]) (tot := 67) (by simp [hH1, hH2]) (fun g1 hg1 => ?_)
 iterate 8 refine gx ?_
 refine qL (qA rfl) rfl enters28 rfl rfl (v := .bool true) (fun w hs => (fits8_c Ao mo co hco hmo o n H1 H2 hH1 hH2 A m c Cs hmm hN w (hC.at_ hs (fun b hb => (qD (by show g1 ≠ b; omega) qE))) (hD.at_ hs (fun b hb => (qD (by show g1 ≠ b; omega) qE))) bo bn).mono fun e w' h => by rw [decide_eq_true (p := o = (mo : Int) ∧ (faultI o n Cs).1 = 0) hft] at h; exact h) ?_
 iterate 3 refine gx ?_
 refine qV rfl ?_
 iterate 6 refine gx ?_
 refine TL.makeSlice1 (qA rfl) rfl rfl Tryz.underlying22 mk5 rfl rfl rfl (ln := ((n).toNat)) (cp := ((n).toNat)) (by omega) (by omega) (by omega) (by omega) (by omega) (fun g2 hg2 => ?_)
 rw [show List.replicate ((n).toNat) (.int .u8 0) = (List.replicate ((n).toNat) 0).map (int .u8) from (List.map_replicate ..).symm]
 iterate 3 refine gx ?_
 refine qC [0, 3, 4, 5] ?_
 iterate 10 refine gx ?_
 refine qp (ι := Nat × List Int) (fun x0 => [(0, .slice Ao mo co), (5, .slice (some ⟨g2, 0, none⟩) ((n).toNat) ((n).toNat)), (16, .slice A m c), (17, .int .i64 (m : Int)), (18, .int .i64 (x0.1 : Int))]) (fun x0 => [⟨g2, 5, x0.2.map (int .u8), n.toNat⟩, ⟨g1, 26, dV o n H1 H2 (slice A m c), 67⟩]) (fun x0 => m - x0.1) (fun x0 => x0.1 ≤ m ∧ putI B Cs n x0.1 x0.2) (0, List.replicate n.toNat 0) ⟨Nat.zero_le _, putI.zero B Cs n⟩ (qT (i := 0) rfl rfl (by first | omega | (dsimp only; omega) | rfl) (by first | omega | (dsimp only; omega) | rfl) (qT (i := 5) rfl rfl (by first | omega | (dsimp only; omega) | rfl) (by first | omega | (dsimp only; omega) | rfl) (qT (i := 16) rfl rfl (by first | omega | (dsimp only; omega) | rfl) (by first | omega | (dsimp only; omega) | rfl) (qF (i := 17) rfl (by first | omega | rfl) (qF (i := 18) rfl rfl (qO)))))) (fun w h => h) (fun x0 hC0 => ?_)
 obtain ⟨i, L0⟩ := x0
 obtain ⟨hC0, hpt⟩ := hC0
 dsimp only at hC0 hpt ⊢
 have hL0 := hpt.1
 iterate 6 refine gx ?_
 refine qP rfl (fun hq0 => ?_) (fun hq0 => ?_)
 ·obtain ⟨x, hx⟩ := hC.get (i := i) (by omega)
  obtain ⟨b, off, hAe, hb, hrw⟩ := hC.some_ (i := i) (by omega)
  subst hAe
  have hnx := hN i x hx
  unfold NumC at hnx
  have hox := hVC.tidy.1 _ (List.mem_map_of_mem (f := tg) (List.mem_of_getElem? hx))
  unfold okT at hox
  have htx : (tg x).1 = x.t := rfl
  iterate 6 refine gx ?_
  refine qB (qA rfl) rfl (qe rfl Tryz.underlying24 size54 rfl rfl (i := i) (by omega) (by omega) (off' := (off + 5 * i)) (by omega)) ?_
  refine qB (qA rfl) rfl (qj rfl agg54 size54 rfl rfl (Row.old (fun jj u h => hrw i x hx jj u h) hb (qD (by show g2 ≠ b; omega) (qD (by show g1 ≠ b; omega) qE)))) ?_
  refine qZ (fun g3 hg3 => ?_)
  iterate 3 refine gx ?_
  refine qC [0, 5, 7, 16, 17, 18] ?_
  refine TC.heap (H' := [⟨g3, 54, [int .i64 x.k, int .i64 x.t, int .i64 x.f, int .i64 x.l, slice x.A x.m x.c], 5⟩, ⟨g1, 26, [int .i64 o, int .i64 n] ++ (H1.map (int .u8) ++ (H2.map (int .u8) ++ ([slice (some ⟨b, off, none⟩) m c]))), 67⟩, ⟨g2, 5, L0.map (int .u8), n.toNat⟩]) (fun w h => h.perm (perm_pick (p := [0, 2, 1]) (by kernel_rfl) rfl)) ?_
  refine TC.heap (H' := [⟨g3, 54, [int .i64 x.k, int .i64 x.t, int .i64 x.f, int .i64 x.l, slice x.A x.m x.c], 5⟩, ⟨g1, 26, [int .i64 o, int .i64 n] ++ (H1.map (int .u8) ++ (H2.map (int .u8) ++ ([slice (some ⟨b, off, none⟩) m c]))), 67⟩] ++ ([⟨g2, 5, L0.map (int .u8), n.toNat⟩])) (fun w h => h) ?_
  refine TC.mixB (HB := [Ent.mk g3 54 ([int .i64 x.k, int .i64 x.t, int .i64 x.f, int .i64 x.l, slice x.A x.m x.c]) 5, Ent.mk g1 26 ([int .i64 o, int .i64 n] ++ (H1.map (int .u8) ++ (H2.map (int .u8) ++ ([slice (some ⟨b, off, none⟩) m c])))) 67]) (H := [Ent.mk g2 5 (L0.map (int .u8)) n.toNat]) (by kernel_rfl) [0, 0, 0, 0, 0, 0, 3, 3] [0, 1, 2, 3, 4, 5, 6, 7] (by kernel_rfl) ?_
  refine TP.free (qA rfl) rfl (fun _ => qu rfl rfl) ?_
  refine TP.free (qA rfl) rfl (fun _ => zI rfl Tryz.underlying54 rfl size3 rfl (off' := 1) (by first | rfl | omega)) ?_
  refine TP.stay (qA rfl) rfl (fun H' => qN rfl agg3 rfl (qU (i := 0) (ent := ⟨g3, 54, [int .i64 x.k, int .i64 x.t, int .i64 x.f, int .i64 x.l, slice x.A x.m x.c], 5⟩) (off := 1) rfl rfl (by exact rfl))) ?_
  refine TP.free (qA rfl) rfl (fun _ => zF rfl Tryz.underlying22 size5 rfl (bnd.at_ (l := ((x.t).toNat)) rfl (by omega)) bnd.dflt (by omega) (by omega) (A' := some ⟨g2, ((x.t).toNat), none⟩) (cut_is (by omega) (by omega)) (ln := ((n).toNat - (x.t).toNat)) (cp := ((n).toNat - (x.t).toNat)) (by omega) (by omega)) ?_
  refine TP.free (qA rfl) rfl (fun _ => qu rfl rfl) ?_
  refine TP.stay (qA rfl) rfl (fun H' => qj rfl agg54 size54 rfl (vs := [int .i64 x.k, int .i64 x.t, int .i64 x.f, int .i64 x.l, slice x.A x.m x.c]) (by simp []) (qW (i := 0) (ent := ⟨g3, 54, [int .i64 x.k, int .i64 x.t, int .i64 x.f, int .i64 x.l, slice x.A x.m x.c], 5⟩) rfl rfl rfl)) ?_
  refine TP.call (ι := Unit) (V := fun _ => contV Ao co x) (R := fun _ => True) (H' := fun _ => [⟨g2, 5, L0.map (int .u8), n.toNat⟩]) (qA rfl) rfl enters29 rfl rfl (fun w hs => (content_c Ao mo co hmo hco o n Cs i x hVC hx ho w).mono fun e w' ⟨he, hw⟩ => ⟨(), he, trivial, hs.call' hw⟩) (fun _ _ => ?_)
  obtain ⟨Ac, mc, cc, hcv, hcsrc, hcm, hcc, hcl⟩ := contV_src (Ao := Ao) (co := co) hVC hx hsB ho hmo hco (hD i x hx).1 (hN i x hx)
  rw [hcv]
  have hnew : (L0.take x.t.toNat ++ segP B (valC x) ++ L0.drop (x.t.toNat + (segP B (valC x)).length)).length = n.toNat := (putI.next hpt hVC hx (hD i x hx).1.1.symm (by rw [hsB.1]; exact ho.symm)).1
  have hsl : (segP B (valC x)).length = mc := hcsrc.1
  refine TP.copyP (qA rfl) rfl rfl Tryz.underlying22 size5 rfl rfl (i := 2) (ent := ⟨g2, 5, L0.map (int .u8), n.toNat⟩) rfl rfl (by simp only [List.length_map]; omega) (fun w hs => hcsrc.at_ hs (fun b hb => (qa (qD (by show g3 ≠ b; omega) (qD (by show g1 ≠ b; omega) qE)) (qD (by show g2 ≠ b; omega) qE)))) (c := mc) (by omega) (cs' := (L0.take x.t.toNat ++ segP B (valC x) ++ L0.drop (x.t.toNat + (segP B (valC x)).length)).map (int .u8)) (by show (L0.map (int .u8)).take x.t.toNat ++ ((segP B (valC x)).take mc).map (int .u8) ++ (L0.map (int .u8)).drop (x.t.toNat + mc) = _; rw [List.take_of_length_le (l := segP B (valC x)) (by omega), ← List.map_take, ← List.map_drop, ← List.map_append, ← List.map_append, hsl]) (H' := [⟨g2, 5, (L0.take x.t.toNat ++ segP B (valC x) ++ L0.drop (x.t.toNat + (segP B (valC x)).length)).map (int .u8), n.toNat⟩]) rfl ?_
  refine TP.nil ?_
  refine TE.heap (H' := [⟨g3, 54, [int .i64 x.k, int .i64 x.t, int .i64 x.f, int .i64 x.l, slice x.A x.m x.c], 5⟩, ⟨g1, 26, [int .i64 o, int .i64 n] ++ (H1.map (int .u8) ++ (H2.map (int .u8) ++ ([slice (some ⟨b, off, none⟩) m c]))), 67⟩, ⟨g2, 5, (L0.take x.t.toNat ++ segP B (valC x) ++ L0.drop (x.t.toNat + (segP B (valC x)).length)).map (int .u8), n.toNat⟩]) (fun w h => h) ?_
  iterate 2 refine gx ?_
  refine qC [0, 5, 16, 17, 18] ?_
  refine gx ?_
  refine qB (qA rfl) rfl (qQ rfl rfl rfl (r := ((i : Int) + 1)) (w64 (by omega) (by omega))) ?_
  iterate 2 refine gx ?_
  exact qd (i + 1, (L0.take x.t.toNat ++ segP B (valC x) ++ L0.drop (x.t.toNat + (segP B (valC x)).length))) (by show m - (i + 1) < m - i; omega) ⟨by show i + 1 ≤ m; omega, putI.next hpt hVC hx (hD i x hx).1.1.symm (by rw [hsB.1]; exact ho.symm)⟩ (qT (i := 0) rfl rfl (by first | omega | (dsimp only; omega) | rfl) (by first | omega | (dsimp only; omega) | rfl) (qT (i := 5) rfl rfl (by first | omega | (dsimp only; omega) | rfl) (by first | omega | (dsimp only; omega) | rfl) (qT (i := 16) rfl (by first | rfl | (congr 2; omega)) (by first | omega | (dsimp only; omega) | rfl) (by first | omega | (dsimp only; omega) | rfl) (qF (i := 17) rfl (by first | omega | rfl) (qF (i := 18) rfl rfl (qO)))))) (fun w h => ((h.erase (i := 0) rfl (by assumption)).perm (perm_pick (p := [1, 0]) (by kernel_rfl) rfl)))
 ·iterate 12 refine gx ?_
  exact qJ rfl rfl (fun w hs => ⟨g2, rfl, by assumption, by rw [← putI.done hpt hVC (by have := hC.1; omega)]; exact (hs.erase (i := 1) rfl (by assumption))⟩)
/-
 The code of layer 8: Byte.
-/
theorem enters39 : Enters Tryz.prog 39 := ⟨_, Tryz.func39, by kernel_rfl, by kernel_rfl⟩
theorem find_out {o n p : Int} {Cs : List CV} (h : ValidC o n Cs) (hp : ¬ (0 ≤ p ∧ p < n)) : findI Cs p = -1 := findI_is (.inl ⟨rfl, fun i x hx hb => by
 have h1 := h.tidy.1 _ (List.mem_map_of_mem (f := tg) (List.mem_of_getElem? hx))
 unfold okT at h1
 unfold hasB at hb
 omega⟩)
theorem byte8_out (B : List Int) (Ao : Option Addr) (mo co : Nat) (hmo : mo ≤ co) (hco : co ≤ 9223372036854775807) (o n : Int) (H1 H2 : List Int) (hH1 : H1.length = 32) (hH2 : H2.length = 32) (A : Option Addr) (m c : Nat) (Cs : List CV) (hmm : m ≤ 1000000000) (hN : NumsC Cs) (w : World) (hC : SrcC w A m Cs) (hD : DatC w Cs) (hf : fewQ Cs) (hsB : Src w Ao mo .u8 B) (bo : -9223372036854775808 ≤ o ∧ o ≤ 9223372036854775807) (bn : -9223372036854775808 ≤ n ∧ n ≤ 9223372036854775807) (hft : o = (mo : Int) ∧ (faultI o n Cs).1 = 0) (p : Int) (bp : -9223372036854775808 ≤ p ∧ p ≤ 9223372036854775807) (hp : ¬ (0 ≤ p ∧ p < n)) : Calls Tryz.prog 21 #[.slice Ao mo co, .agg (dV o n H1 H2 (slice A m c)).toArray, .int .i64 p] w fun e w' => e = .returned (.tuple #[.int .u8 0, .bool false]) ∧ St w [] w' := by
 have hVC : ValidC o n Cs := validC hft.2
 have ho := hft.1
 have hlen := hVC.len
 unfold okLen at hlen
 have hfi := find_out hVC hp
 refine qM (args := [.slice Ao mo co, .agg (dV o n H1 H2 (slice A m c)).toArray, .int .i64 p]) Tryz.func21 rfl Tryz.ntmps21 (by simp) ?_
 refine qC [0, 1, 2] ?_
 iterate 2 refine gx ?_
 refine qr (qA rfl) rfl rfl rfl (cs := dV o n H1 H2 (slice A m c)) (by simp [Value.cells]) (tot := 67) (by simp [hH1, hH2]) (fun g1 hg1 => ?_)
 iterate 9 refine gx ?_
 refine qL (qA rfl) rfl enters28 rfl rfl (v := .bool true) (fun w hs => (fits8_c Ao mo co hco hmo o n H1 H2 hH1 hH2 A m c Cs hmm hN w (hC.at_ hs (fun b hb => (qD (by show g1 ≠ b; omega) qE))) (hD.at_ hs (fun b hb => (qD (by show g1 ≠ b; omega) qE))) bo bn).mono fun e w' h => by rw [decide_eq_true (p := o = (mo : Int) ∧ (faultI o n Cs).1 = 0) hft] at h; exact h) ?_
 iterate 3 refine gx ?_
 refine qC [0, 2, 4, 6, 7, 13] ?_
 refine qV rfl ?_
 iterate 6 refine gx ?_
 refine qL (qA rfl) rfl enters39 rfl rfl (v := .int .i64 (-1)) (fun w hs => (dfind_c o n H1 H2 hH1 hH2 A m c Cs hmm hN w (hC.at_ hs (fun b hb => (qD (by show g1 ≠ b; omega) qE))) (hD.at_ hs (fun b hb => (qD (by show g1 ≠ b; omega) qE))) hf hVC p).mono fun e w' h => by rw [hfi] at h; exact h) ?_
 iterate 3 refine gx ?_
 refine qC [0, 2, 4, 6, 7, 8] ?_
 iterate 4 refine gx ?_
 refine qB (qA rfl) rfl (qS (qm rfl rfl rfl) (by omega)) ?_
 iterate 2 refine gx ?_
 refine qb rfl ?_
 iterate 8 refine gx ?_
 exact TE.ret2 rfl rfl rfl (fun w hs => ⟨rfl, (hs.drop (by assumption))⟩)
theorem byte8_in (B : List Int) (Ao : Option Addr) (mo co : Nat) (hmo : mo ≤ co) (hco : co ≤ 9223372036854775807) (o n : Int) (H1 H2 : List Int) (hH1 : H1.length = 32) (hH2 : H2.length = 32) (A : Option Addr) (m c : Nat) (Cs : List CV) (hmm : m ≤ 1000000000) (hN : NumsC Cs) (w : World) (hC : SrcC w A m Cs) (hD : DatC w Cs) (hf : fewQ Cs) (hsB : Src w Ao mo .u8 B) (bo : -9223372036854775808 ≤ o ∧ o ≤ 9223372036854775807) (bn : -9223372036854775808 ≤ n ∧ n ≤ 9223372036854775807) (hft : o = (mo : Int) ∧ (faultI o n Cs).1 = 0) (p : Int) (bp : -9223372036854775808 ≤ p ∧ p ≤ 9223372036854775807) (hp : 0 ≤ p ∧ p < n) : Calls Tryz.prog 21 #[.slice Ao mo co, .agg (dV o n H1 H2 (slice A m c)).toArray, .int .i64 p] w fun e w' => e = .returned (.tuple #[.int .u8 (byteI B Cs p), .bool true]) ∧ St w [] w' := by
 have hVC : ValidC o n Cs := validC hft.2
 have ho := hft.1
 have hlen := hVC.len
 unfold okLen at hlen
 obtain ⟨i, x, hfi, hx, hbx⟩ := hVC.find hp.1 hp.2
 refine qM (args := [.slice Ao mo co, .agg (dV o n H1 H2 (slice A m c)).toArray, .int .i64 p]) Tryz.func21 rfl Tryz.ntmps21 (by simp) ?_
 refine qC [0, 1, 2] ?_
 iterate 2 refine gx ?_
 refine qr (qA rfl) rfl rfl rfl (cs := dV o n H1 H2 (slice A m c)) (by simp [Value.cells]) (tot := 67) (by simp [hH1, hH2]) (fun g1 hg1 => ?_)
 iterate 9 refine gx ?_
 refine qL (qA rfl) rfl enters28 rfl rfl (v := .bool true) (fun w hs => (fits8_c Ao mo co hco hmo o n H1 H2 hH1 hH2 A m c Cs hmm hN w (hC.at_ hs (fun b hb => (qD (by show g1 ≠ b; omega) qE))) (hD.at_ hs (fun b hb => (qD (by show g1 ≠ b; omega) qE))) bo bn).mono fun e w' h => by rw [decide_eq_true (p := o = (mo : Int) ∧ (faultI o n Cs).1 = 0) hft] at h; exact h) ?_
 iterate 3 refine gx ?_
 refine qC [0, 2, 4, 6, 7, 13] ?_
 refine qV rfl ?_
 iterate 6 refine gx ?_
 refine qL (qA rfl) rfl enters39 rfl rfl (v := .int .i64 (i : Int)) (fun w hs => (dfind_c o n H1 H2 hH1 hH2 A m c Cs hmm hN w (hC.at_ hs (fun b hb => (qD (by show g1 ≠ b; omega) qE))) (hD.at_ hs (fun b hb => (qD (by show g1 ≠ b; omega) qE))) hf hVC p).mono fun e w' h => by rw [hfi] at h; exact h) ?_
 iterate 3 refine gx ?_
 refine qC [0, 2, 4, 6, 7, 8] ?_
 iterate 4 refine gx ?_
 refine qB (qA rfl) rfl (qR (qm rfl rfl rfl) (by omega)) ?_
 iterate 2 refine gx ?_
 refine qV rfl ?_
 iterate 3 refine gx ?_
 have hi : i < m := by have h1 := (List.getElem?_eq_some_iff.1 hx).1; have := hC.1; omega
 obtain ⟨b, off, hAe, hb, hrw⟩ := hC.some_ (i := i) hi
 subst hAe
 have hnx := hN i x hx
 unfold NumC at hnx
 have hox := hVC.tidy.1 _ (List.mem_map_of_mem (f := tg) (List.mem_of_getElem? hx))
 unfold okT at hox
 have htx : (tg x).1 = x.t := rfl
 have hb1 : x.t ≤ p := hbx.1
 have hb2 : p < x.t + (tg x).2 := hbx.2
 obtain ⟨j, hj⟩ : ∃ j : Nat, (j : Int) = p - x.t := ⟨(p - x.t).toNat, by omega⟩
 have hbyte : byteI B Cs p = (segP B (valC x)).getD j 0 := by rw [byteI_of hVC.tidy hx hbx, List.getD_eq_getElem?_getD, show j = (p - x.t).toNat by omega, seg_get (vokp hVC hx (hD i x hx).1.1.symm (by rw [hsB.1]; exact ho.symm)) (hD i x hx).1.1.symm hbx]; rfl
 iterate 4 refine gx ?_
 refine qB (qA rfl) rfl (qe rfl Tryz.underlying24 size54 rfl rfl (i := i) (by omega) (by omega) (off' := (off + 5 * i)) (by omega)) ?_
 refine qB (qA rfl) rfl (qj rfl agg54 size54 rfl rfl (Row.old (fun jj u h => hrw i x hx jj u h) hb (qD (by show g1 ≠ b; omega) qE))) ?_
 refine qZ (fun g2 hg2 => ?_)
 iterate 3 refine gx ?_
 refine qC [0, 2, 6, 7, 9] ?_
 refine gx ?_
 refine TC.heap (H' := [⟨g2, 54, [int .i64 x.k, int .i64 x.t, int .i64 x.f, int .i64 x.l, slice x.A x.m x.c], 5⟩, ⟨g1, 26, [int .i64 o, int .i64 n] ++ (H1.map (int .u8) ++ (H2.map (int .u8) ++ ([slice (some ⟨b, off, none⟩) m c]))), 67⟩] ++ ([])) (fun w h => h) ?_
 refine TC.mixB (HB := [Ent.mk g2 54 ([int .i64 x.k, int .i64 x.t, int .i64 x.f, int .i64 x.l, slice x.A x.m x.c]) 5, Ent.mk g1 26 ([int .i64 o, int .i64 n] ++ (H1.map (int .u8) ++ (H2.map (int .u8) ++ ([slice (some ⟨b, off, none⟩) m c])))) 67]) (H := []) (by kernel_rfl) [0, 0, 3, 0, 0, 0, 0, 0, 1, 0, 0] [0, 1, 3, 4, 5, 6, 2, 7, 8, 9, 10] (by kernel_rfl) ?_
 refine TP.free (qA rfl) rfl (fun _ => qu rfl rfl) ?_
 refine TP.stay (qA rfl) rfl (fun H' => qj rfl agg54 size54 rfl (vs := [int .i64 x.k, int .i64 x.t, int .i64 x.f, int .i64 x.l, slice x.A x.m x.c]) (by simp []) (qW (i := 0) (ent := ⟨g2, 54, [int .i64 x.k, int .i64 x.t, int .i64 x.f, int .i64 x.l, slice x.A x.m x.c], 5⟩) rfl rfl rfl)) ?_
 refine TP.free (qA rfl) rfl (fun _ => qu rfl rfl) ?_
 refine TP.free (qA rfl) rfl (fun _ => zI rfl Tryz.underlying54 rfl size3 rfl (off' := 1) (by first | rfl | omega)) ?_
 refine TP.stay (qA rfl) rfl (fun H' => qN rfl agg3 rfl (qU (i := 0) (ent := ⟨g2, 54, [int .i64 x.k, int .i64 x.t, int .i64 x.f, int .i64 x.l, slice x.A x.m x.c], 5⟩) (off := 1) rfl rfl (by exact rfl))) ?_
 refine TP.free (qA rfl) rfl (fun _ => Gets.congr (qy rfl rfl rfl (r := (p - x.t)) (w64 (by omega) (by omega))) (congrArg (int .i64) hj.symm)) ?_
 refine TP.call (ι := Unit) (V := fun _ => contV Ao co x) (R := fun _ => True) (H' := fun _ => []) (qA rfl) rfl enters29 rfl rfl (fun w hs => (content_c Ao mo co hmo hco o n Cs i x hVC hx ho w).mono fun e w' ⟨he, hw⟩ => ⟨(), he, trivial, hs.call' hw⟩) (fun _ _ => ?_)
 obtain ⟨Ac, mc, cc, hcv, hcsrc, hcm, hcc, hcl⟩ := contV_src (Ao := Ao) (co := co) hVC hx hsB ho hmo hco (hD i x hx).1 (hN i x hx)
 rw [hcv]
 obtain ⟨bc, oc, hAc, hbc, hrc⟩ := hcsrc.2.resolve_left (by omega)
 subst hAc
 refine TP.free (qA rfl) rfl (fun _ => qe rfl Tryz.underlying22 size5 rfl rfl (i := j) (by omega) (by omega) (off' := (oc + j)) (by omega)) ?_
 refine TP.gets (qA rfl) rfl (qN rfl agg5 rfl (At.rowI hrc (i := j) (by omega) (by omega) hbc (qa (qD (by show g2 ≠ bc; omega) (qD (by show g1 ≠ bc; omega) qE)) qE))) ?_
 refine TP.free (qA rfl) rfl (fun _ => Gets.assign rfl rfl) ?_
 refine TP.free (qA rfl) rfl (fun _ => Gets.assign rfl rfl) ?_
 refine TP.nil ?_
 refine TE.heap (H' := [⟨g2, 54, [int .i64 x.k, int .i64 x.t, int .i64 x.f, int .i64 x.l, slice x.A x.m x.c], 5⟩, ⟨g1, 26, [int .i64 o, int .i64 n] ++ (H1.map (int .u8) ++ (H2.map (int .u8) ++ ([slice (some ⟨b, off, none⟩) m c]))), 67⟩]) (fun w h => h) ?_
 iterate 2 refine gx ?_
 exact TE.ret2 rfl rfl rfl (fun w hs => ⟨by rw [hbyte], ((hs.drop (by assumption)).drop (by assumption))⟩)
/-
 The code of layer 8: contents.
-/
/-
 The code of layer 8: Verify.
-/
instance : AgY Tryz.prog 40 := ⟨agg40⟩
/-
 The chapter's example.
-/
theorem enters11 : Enters Tryz.prog 11 := ⟨_, Tryz.func11, by kernel_rfl, by kernel_rfl⟩
theorem enters22 : Enters Tryz.prog 22 := ⟨_, Tryz.func22, by kernel_rfl, by kernel_rfl⟩
def exO : List Int := [97, 98, 99, 100, 101, 102]
def exN : List Int := [120, 99, 100, 101, 102, 97, 98]
def exX : List Int := [120]
theorem exO_bytes : Bytes exO := by intro x hx; unfold exO at hx; simp only [List.mem_cons, List.not_mem_nil, or_false] at hx; omega
theorem exN_bytes : Bytes exN := by intro x hx; unfold exN at hx; simp only [List.mem_cons, List.not_mem_nil, or_false] at hx; omega
theorem exX_bytes : Bytes exX := by intro x hx; unfold exX at hx; simp only [List.mem_cons, List.not_mem_nil, or_false] at hx; omega
def ex8 (g : Nat) : List CV := [⟨2, 0, 0, 0, some ⟨g, 0, none⟩, 1, 1, exX⟩, ⟨1, 1, 2, 4, none, 0, 0, []⟩, ⟨1, 5, 0, 2, none, 0, 0, []⟩]
theorem ex8_cmds (g : Nat) : cmdsL exO exN 2 = (ex8 g).map valC := by
 show _ = [(2, 0, 0, 0, [120]), (1, 1, 2, 4, []), (1, 5, 0, 2, [])]
 decide
theorem ex8_num (g : Nat) : NumsC (ex8 g) := fun i x hx => by
 match i, hx with
 | 0, hx => simp [ex8] at hx; subst hx; unfold NumC; dsimp only; omega
 | 1, hx => simp [ex8] at hx; subst hx; unfold NumC; dsimp only; omega
 | 2, hx => simp [ex8] at hx; subst hx; unfold NumC; dsimp only; omega
 | i + 3, hx => simp [ex8] at hx
theorem ex8_dat {w : World} {g : Nat} (h : Src w (some ⟨g, 0, none⟩) 1 .u8 exX) : DatC w (ex8 g) := fun i x hx => by
 match i, hx with
 | 0, hx => simp [ex8] at hx; subst hx; exact ⟨h, exX_bytes⟩
 | 1, hx => simp [ex8] at hx; subst hx; exact ⟨src_no, bytes_no⟩
 | 2, hx => simp [ex8] at hx; subst hx; exact ⟨src_no, bytes_no⟩
 | i + 3, hx => simp [ex8] at hx
theorem St.grow {w0 w1 w : World} {H : List Ent} (h1 : St w0 H w1) (h : St w1 [] w) : St w1 H w :=
 ⟨h.os, h.tape, h.output, h.size, fun e he => (h1.has e he).of_block (h.old _ (h1.has e he).lt (by simp)), fun b hb _ => h.old b hb (by simp), h1.apart⟩
theorem alive8_c (w : World) (hMX : MaxC w) (h1 : 2 < w.heap.size) (hIV : RowI w 0 0 8 .u32 IV) (hK : RowI w 2 0 64 .u32 KT) : Calls Tryz.prog 10 #[] w fun e w' => e = .returned (.bool true) ∧ St w [] w' := by
 refine qM (args := []) Tryz.func10 rfl Tryz.ntmps10 (by simp) ?_
 refine qC [] ?_
 iterate 7 refine gx ?_
 refine zH (qA rfl) rfl rfl Tryz.underlying22 size5 zero5 rfl (by decide) (by decide) (cells := #[.int .u8 97, .int .u8 98, .int .u8 99, .int .u8 100, .int .u8 101, .int .u8 102]) (tot := 6) (by kernel_rfl) (cs := [.int .u8 97, .int .u8 98, .int .u8 99, .int .u8 100, .int .u8 101, .int .u8 102]) rfl rfl (fun g1 hg1 => ?_)
 refine TL.mark2 (qA rfl) rfl rfl Tryz.underlying22 Tryz.underlying5 rfl (i := 0) (ent := ⟨g1, 5, [int .u8 97, int .u8 98, int .u8 99, int .u8 100, int .u8 101, int .u8 102], 6⟩) rfl rfl (W := exO) rfl (by omega) (fun wm1 hap1 hw1 hr1 hgw1 => ?_)
 change St _ ([]) wm1 at hw1
 refine TL.heap (H' := []) (fun w h => hw1.grow h) ?_
 have hwB1 : St w [] wm1 := zG ([]) (by rw [List.append_nil]; exact hw1) qY
 have hwz1 := hw1.size
 have hwy1 := hwB1.size
 have hsL1 : Src wm1 (some ⟨g1, 0, none⟩) exO.length .u8 exO := ⟨rfl, .inr ⟨g1, 0, rfl, hgw1, hr1⟩⟩
 have hnT1 : ∀ e ∈ ([] : List Ent), e.g ≠ g1 := hap1
 have hg1l : g1 < wm1.heap.size := hgw1
 refine zH (qA rfl) rfl rfl Tryz.underlying22 size5 zero5 rfl (by decide) (by decide) (cells := #[.int .u8 120, .int .u8 99, .int .u8 100, .int .u8 101, .int .u8 102, .int .u8 97, .int .u8 98]) (tot := 7) (by kernel_rfl) (cs := [.int .u8 120, .int .u8 99, .int .u8 100, .int .u8 101, .int .u8 102, .int .u8 97, .int .u8 98]) rfl rfl (fun g2 hg2 => ?_)
 refine TL.mark2 (qA rfl) rfl rfl Tryz.underlying22 Tryz.underlying5 rfl (i := 0) (ent := ⟨g2, 5, [int .u8 120, int .u8 99, int .u8 100, int .u8 101, int .u8 102, int .u8 97, int .u8 98], 7⟩) rfl rfl (W := exN) rfl (by omega) (fun wm2 hap2 hw2 hr2 hgw2 => ?_)
 change St _ ([]) wm2 at hw2
 refine TL.heap (H' := []) (fun w h => hw2.grow h) ?_
 have hwB2 : St w [] wm2 := zG ([]) (by rw [List.append_nil]; exact (hwB1.rebase hw2 qY)) qY
 have hwz2 := hw2.size
 have hwy2 := hwB2.size
 have hsL2 : Src wm2 (some ⟨g2, 0, none⟩) exN.length .u8 exN := ⟨rfl, .inr ⟨g2, 0, rfl, hgw2, hr2⟩⟩
 have hsL1 := hsL1.at_ hw2 (by simp)
 have hnT2 : ∀ e ∈ ([] : List Ent), e.g ≠ g2 := hap2
 have hg2l : g2 < wm2.heap.size := hgw2
 refine qt (ι := (Option Addr × Nat) × (List CV × List Ent)) (V := fun y => .agg (dV 6 7 (shaM exO) (shaM exN) (slice y.1.1 3 y.1.2)).toArray) (R := fun y => (3 ≤ y.1.2 ∧ y.1.2 ≤ 9223372036854775807) ∧ OwnD wm2.heap.size y.1.1 3 y.2.1 y.2.2 ∧ (y.2.1.map valC = cmdsL exO exN 2 ∧ ∀ x ∈ y.2.1, x.m = x.B.length) ∧ y.2.1.length = 3) (H' := fun y => [] ++ y.2.2) (qA rfl) rfl enters22 rfl rfl (fun w hs => ?hmk) (fun y hR => ?_)
 case hmk =>
  have hs0 := hs; have hs := hwB2.rebase hs0 qY
  refine (make8_c exO exN (some ⟨g1, 0, none⟩) (some ⟨g2, 0, none⟩) 6 6 7 7 2 (by omega) (by omega) (by omega) (by omega) (by omega) (by omega) (by omega) exO_bytes exN_bytes w (hsL1.at_ hs0 (fun b hb => qE)) (hsL2.at_ hs0 (fun b hb => qE)) (hMX.at_ hs qE) (Nat.lt_of_lt_of_le h1 hs.size) (hIV.keepH hs (by omega) qE) (hK.keepH hs h1 qE)).mono fun e w' ⟨A', c', nL, Fs, He, he, hc, ho, hv, hl, hw⟩ => ?_
  obtain rfl : nL = 3 := by have h1 := congrArg List.length hv.1; rw [ex8_cmds 0, List.length_map] at h1; rw [← hl, h1]; rfl
  exact ⟨((A', c'), (Fs, He)), he, ⟨hc, ho.mono hs0.size, hv, hl⟩, st_call hs0 hw ho.1⟩
 obtain ⟨⟨As, cs⟩, Fs, Hw⟩ := y
 obtain ⟨hcs, hos, hFv, hFl⟩ := hR
 dsimp only at hcs hos hFv hFl ⊢
 have hFw : Fresh w Hw := fun e he => Nat.le_trans hwy2 (hos.1 e he)
 obtain ⟨hval, hnew⟩ := cmdsL_valid hFv.1 hFv.2 (by decide) (by decide)
 have hvi : (faultI 6 7 Fs).1 = 0 := by have h9 : faultI 6 7 Fs = (0, 0) := hval; rw [h9]
 have hnew : newB exO Fs 7 = exN := hnew
 have hsame : ∀ g, sameC Fs (ex8 g) := fun g => by unfold sameC; rw [hFv.1, ex8_cmds g]
 refine TL.alloc (qA rfl) rfl rfl zero26 (cs := [int .i64 0, int .i64 0] ++ ((List.replicate 64 0).map (int .u8) ++ ([slice none 0 0]))) rfl (tot := 67) (by simp) (fun g3 hg3 => ?_)
 refine TL.storeW (qA rfl) rfl rfl size26 rfl (vs := dV 6 7 (shaM exO) (shaM exN) (slice As 3 cs)) rfl (by simp [(shaM_len exO), (shaM_len exN)]) (ones_app (by simp [Value.oneCell']) (ones_app zB (ones_app zB (by simp [Value.oneCell'])))) (i := 0) (ent := ⟨g3, 26, [int .i64 0, int .i64 0] ++ ((List.replicate 64 0).map (int .u8) ++ ([slice none 0 0])), 67⟩) rfl rfl (by simp []) (H' := [⟨g3, 26, dV 6 7 (shaM exO) (shaM exN) (slice As 3 cs), 67⟩] ++ Hw) rfl ?_
 iterate 4 refine gx ?_
 refine zH (qA rfl) rfl rfl Tryz.underlying22 size5 zero5 rfl (by decide) (by decide) (cells := #[.int .u8 120]) (tot := 1) (by kernel_rfl) (cs := [.int .u8 120]) rfl rfl (fun g4 hg4 => ?_)
 refine TL.mark2 (qA rfl) rfl rfl Tryz.underlying22 Tryz.underlying5 rfl (i := 0) (ent := ⟨g4, 5, [int .u8 120], 1⟩) rfl rfl (W := exX) rfl (by omega) (fun wm3 hap3 hw3 hr3 hgw3 => ?_)
 change St _ ([Ent.mk g3 26 (dV 6 7 (shaM exO) (shaM exN) (slice As 3 cs)) 67] ++ Hw) wm3 at hw3
 refine TL.heap (H' := [Ent.mk g3 26 (dV 6 7 (shaM exO) (shaM exN) (slice As 3 cs)) 67] ++ Hw) (fun w h => hw3.grow h) ?_
 have hwB3 : St w [] wm3 := zG ([Ent.mk g3 26 (dV 6 7 (shaM exO) (shaM exN) (slice As 3 cs)) 67] ++ Hw) (by rw [List.append_nil]; exact (hwB2.rebase hw3 (qx (qH (by first | assumption | (dsimp only; omega)) qY) hFw))) (qx (qH (by first | assumption | (dsimp only; omega)) qY) hFw)
 have hwz3 := hw3.size
 have hwy3 := hwB3.size
 have hsL3 : Src wm3 (some ⟨g4, 0, none⟩) exX.length .u8 exX := ⟨rfl, .inr ⟨g4, 0, rfl, hgw3, hr3⟩⟩
 have hnT3 : ∀ e ∈ ([Ent.mk g3 26 (dV 6 7 (shaM exO) (shaM exN) (slice As 3 cs)) 67] ++ Hw : List Ent), e.g ≠ g4 := hap3
 have hg3l : g4 < wm3.heap.size := hgw3
 refine qB (qA rfl) rfl (qq rfl (vs := [(0, int .i64 2), (4, slice (some ⟨g4, 0, none⟩) 1 1)]) rfl (fun w => by first | rfl | kernel_rfl) (v := .agg ([int .i64 2, int .i64 0, int .i64 0, int .i64 0, slice (some ⟨g4, 0, none⟩) 1 1]).toArray)) ?_
 refine qB (qA rfl) rfl (qq rfl (vs := [(0, int .i64 1), (1, int .i64 1), (2, int .i64 2), (3, int .i64 4)]) rfl (fun w => by first | rfl | kernel_rfl) (v := .agg ([int .i64 1, int .i64 1, int .i64 2, int .i64 4, slice none 0 0]).toArray)) ?_
 refine qB (qA rfl) rfl (qq rfl (vs := [(0, int .i64 1), (1, int .i64 5), (3, int .i64 2)]) rfl (fun w => by first | rfl | kernel_rfl) (v := .agg ([int .i64 1, int .i64 5, int .i64 0, int .i64 2, slice none 0 0]).toArray)) ?_
 refine zH (qA rfl) rfl rfl Tryz.underlying24 size54 zero54 rfl (by decide) (by decide) (cells := #[.int .i64 2, .int .i64 0, .int .i64 0, .int .i64 0, .slice (some ⟨g4, 0, none⟩) 1 1, .int .i64 1, .int .i64 1, .int .i64 2, .int .i64 4, .slice none 0 0, .int .i64 1, .int .i64 5, .int .i64 0, .int .i64 2, .slice none 0 0]) (tot := 15) (by kernel_rfl) (cs := [.int .i64 2, .int .i64 0, .int .i64 0, .int .i64 0, .slice (some ⟨g4, 0, none⟩) 1 1, .int .i64 1, .int .i64 1, .int .i64 2, .int .i64 4, .slice none 0 0, .int .i64 1, .int .i64 5, .int .i64 0, .int .i64 2, .slice none 0 0]) rfl rfl (fun g5 hg5 => ?_)
 iterate 3 refine gx ?_
 refine qC [0, 1, 2] ?_
 iterate 3 refine gx ?_
 refine qB (qA rfl) rfl (qN rfl agg24 rfl (qU (i := 1) (ent := ⟨g3, 26, dV 6 7 (shaM exO) (shaM exN) (slice As 3 cs), 67⟩) (off := 66) rfl rfl (by exact app_right (a := 2) (i := 64) (rfl) (app_right (a := 32) (i := 32) (ints_len (shaM_len exO)) (app_right (a := 32) (i := 0) (ints_len (shaM_len exN)) (rfl)))))) ?_
 refine gx ?_
 refine qL (qA rfl) rfl enters27 rfl rfl (v := .bool true) (fun w hs => (rall_c As (some ⟨g5, 0, none⟩) 3 cs 3 3 Fs (ex8 g4) (by omega) (by omega) hos.num w (hos.src (fun e he => hs.has e (by simp [he]))) (lies_srcC (hs.has (⟨g5, 54, [int .i64 2, int .i64 0, int .i64 0, int .i64 0, slice (some ⟨g4, 0, none⟩) 1 1, int .i64 1, int .i64 1, int .i64 2, int .i64 4, slice none 0 0, int .i64 1, int .i64 5, int .i64 0, int .i64 2, slice none 0 0], 15⟩) (List.mem_of_getElem? (i := 0) rfl)) rfl rfl) (hos.dat (fun e he => hs.has e (by simp [he]))) (ex8_dat ⟨rfl, .inr ⟨g4, 0, rfl, Nat.lt_of_lt_of_le hgw3 hs.size, hr3.keepH hs hgw3 (List.forall_mem_cons.2 ⟨by dsimp only; omega, hnT3⟩)⟩⟩)).mono fun e w' h => by rw [decide_eq_true (p := sameC Fs (ex8 g4)) (hsame _)] at h; exact h) ?_
 iterate 3 refine gx ?_
 refine qB (qI rfl rfl rfl) rfl (qS (qg rfl rfl rfl) rfl) ?_
 iterate 4 refine gx ?_
 refine qB (qI rfl rfl rfl) rfl (qS (qg rfl rfl rfl) rfl) ?_
 iterate 2 refine gx ?_
 refine zH (qI rfl rfl rfl) rfl rfl Tryz.underlying22 size5 zero5 rfl (by decide) (by decide) (cells := #[.int .u8 97, .int .u8 98, .int .u8 99, .int .u8 100, .int .u8 101, .int .u8 102]) (tot := 6) (by kernel_rfl) (cs := [.int .u8 97, .int .u8 98, .int .u8 99, .int .u8 100, .int .u8 101, .int .u8 102]) rfl rfl (fun g6 hg6 => ?_)
 refine TL.mark2 (qI rfl rfl rfl) rfl rfl Tryz.underlying22 Tryz.underlying5 rfl (i := 0) (ent := ⟨g6, 5, [int .u8 97, int .u8 98, int .u8 99, int .u8 100, int .u8 101, int .u8 102], 6⟩) rfl rfl (W := exO) rfl (by omega) (fun wm4 hap4 hw4 hr4 hgw4 => ?_)
 change St _ ([Ent.mk g5 54 ([int .i64 2, int .i64 0, int .i64 0, int .i64 0, slice (some ⟨g4, 0, none⟩) 1 1, int .i64 1, int .i64 1, int .i64 2, int .i64 4, slice none 0 0, int .i64 1, int .i64 5, int .i64 0, int .i64 2, slice none 0 0]) 15, Ent.mk g3 26 (dV 6 7 (shaM exO) (shaM exN) (slice As 3 cs)) 67] ++ Hw) wm4 at hw4
 refine TL.heap (H' := [Ent.mk g5 54 ([int .i64 2, int .i64 0, int .i64 0, int .i64 0, slice (some ⟨g4, 0, none⟩) 1 1, int .i64 1, int .i64 1, int .i64 2, int .i64 4, slice none 0 0, int .i64 1, int .i64 5, int .i64 0, int .i64 2, slice none 0 0]) 15, Ent.mk g3 26 (dV 6 7 (shaM exO) (shaM exN) (slice As 3 cs)) 67] ++ Hw) (fun w h => hw4.grow h) ?_
 have hwB4 : St w [] wm4 := zG ([Ent.mk g5 54 ([int .i64 2, int .i64 0, int .i64 0, int .i64 0, slice (some ⟨g4, 0, none⟩) 1 1, int .i64 1, int .i64 1, int .i64 2, int .i64 4, slice none 0 0, int .i64 1, int .i64 5, int .i64 0, int .i64 2, slice none 0 0]) 15, Ent.mk g3 26 (dV 6 7 (shaM exO) (shaM exN) (slice As 3 cs)) 67] ++ Hw) (by rw [List.append_nil]; exact (hwB3.rebase hw4 (qx (qH (by first | assumption | (dsimp only; omega)) (qH (by first | assumption | (dsimp only; omega)) qY)) hFw))) (qx (qH (by first | assumption | (dsimp only; omega)) (qH (by first | assumption | (dsimp only; omega)) qY)) hFw)
 have hwz4 := hw4.size
 have hwy4 := hwB4.size
 have hsL4 : Src wm4 (some ⟨g6, 0, none⟩) exO.length .u8 exO := ⟨rfl, .inr ⟨g6, 0, rfl, hgw4, hr4⟩⟩
 have hnT4 : ∀ e ∈ ([Ent.mk g5 54 ([int .i64 2, int .i64 0, int .i64 0, int .i64 0, slice (some ⟨g4, 0, none⟩) 1 1, int .i64 1, int .i64 1, int .i64 2, int .i64 4, slice none 0 0, int .i64 1, int .i64 5, int .i64 0, int .i64 2, slice none 0 0]) 15, Ent.mk g3 26 (dV 6 7 (shaM exO) (shaM exN) (slice As 3 cs)) 67] ++ Hw : List Ent), e.g ≠ g6 := hap4
 have hg4l : g6 < wm4.heap.size := hgw4
 refine qB (qI rfl rfl rfl) rfl (qj rfl agg26 size26 rfl (vs := dV 6 7 (shaM exO) (shaM exN) (slice As 3 cs)) (by simp [(shaM_len exO), (shaM_len exN)]) (qW (i := 1) (ent := ⟨g3, 26, dV 6 7 (shaM exO) (shaM exN) (slice As 3 cs), 67⟩) rfl rfl rfl)) ?_
 refine qt (ι := Nat) (V := fun y => .slice (some ⟨y, 0, none⟩) 7 7) (R := fun y => wm4.heap.size ≤ y) (H' := fun y => [Ent.mk g5 54 ([int .i64 2, int .i64 0, int .i64 0, int .i64 0, slice (some ⟨g4, 0, none⟩) 1 1, int .i64 1, int .i64 1, int .i64 2, int .i64 4, slice none 0 0, int .i64 1, int .i64 5, int .i64 0, int .i64 2, slice none 0 0]) 15, Ent.mk g3 26 (dV 6 7 (shaM exO) (shaM exN) (slice As 3 cs)) 67] ++ Hw ++ [Ent.mk y 5 (exN.map (int .u8)) 7]) (qI rfl rfl rfl) rfl enters11 rfl rfl (fun w hs => ?hap) (fun y hR => ?_)
 case hap =>
  have hs0 := hs; have hs := hwB4.rebase hs0 (qx (qH (by first | assumption | (dsimp only; omega)) (qH (by first | assumption | (dsimp only; omega)) qY)) hFw)
  refine (apply8_yes exO (some ⟨g6, 0, none⟩) 6 6 (by omega) (by omega) 6 7 (shaM exO) (shaM exN) (shaM_len exO) (shaM_len exN) As 3 cs Fs (by omega) hos.num w (hos.src (fun e he => hs.has e (by simp [he]))) (hos.dat (fun e he => hs.has e (by simp [he]))) ⟨rfl, .inr ⟨g6, 0, rfl, Nat.lt_of_lt_of_le hgw4 hs0.size, hr4.keepH hs0 hgw4 hnT4⟩⟩ (by omega) (by omega) ⟨rfl, hvi⟩ (by omega)).mono fun e w' ⟨g, he, hg, hw⟩ => ?_
  rw [hnew] at hw
  exact ⟨g, he, Nat.le_trans hs0.size hg, st_call hs0 hw (qH hg qY)⟩
 have hFy : Fresh w [Ent.mk y 5 (exN.map (int .u8)) 7] := qH (by show w.heap.size ≤ y; omega) qY
 refine TL.heap (H' := [Ent.mk g5 54 ([int .i64 2, int .i64 0, int .i64 0, int .i64 0, slice (some ⟨g4, 0, none⟩) 1 1, int .i64 1, int .i64 1, int .i64 2, int .i64 4, slice none 0 0, int .i64 1, int .i64 5, int .i64 0, int .i64 2, slice none 0 0]) 15, Ent.mk g3 26 (dV 6 7 (shaM exO) (shaM exN) (slice As 3 cs)) 67] ++ (Hw ++ [Ent.mk y 5 (exN.map (int .u8)) 7])) (fun w h => by rw [← List.append_assoc]; exact h) ?_
 have hFwy := qx hFw hFy
 refine qB (qI rfl rfl rfl) rfl (Gets.b2s rfl Tryz.underlying22 Tryz.underlying9 Tryz.underlying5 rfl (fun w hs => src_ent (hs.has (Ent.mk y 5 (exN.map (int .u8)) 7) (by simp)) rfl)) ?_
 refine qB (qI rfl rfl rfl) rfl (qS (Gets.bytesEq (C := exN) rfl rfl rfl exN_bytes exN_bytes) rfl) ?_
 iterate 5 refine gx ?_
 exact qJ rfl rfl (fun w hs => ⟨rfl, zG ([Ent.mk g5 54 ([int .i64 2, int .i64 0, int .i64 0, int .i64 0, slice (some ⟨g4, 0, none⟩) 1 1, int .i64 1, int .i64 1, int .i64 2, int .i64 4, slice none 0 0, int .i64 1, int .i64 5, int .i64 0, int .i64 2, slice none 0 0]) 15, Ent.mk g3 26 (dV 6 7 (shaM exO) (shaM exN) (slice As 3 cs)) 67] ++ (Hw ++ [Ent.mk y 5 (exN.map (int .u8)) 7])) (by rw [List.append_nil]; exact hwB4.rebase hs (qx (qH (by first | assumption | (dsimp only; omega)) (qH (by first | assumption | (dsimp only; omega)) qY)) hFwy)) (qx (qH (by first | assumption | (dsimp only; omega)) (qH (by first | assumption | (dsimp only; omega)) qY)) hFwy)⟩)
/-
 PatchVerifies: the walk.
-/
theorem agg38 : (isAgg 38).run Tryz.prog = fun w => .ok false w := isAgg_no Tryz.underlying38 rfl
theorem enters10 : Enters Tryz.prog 10 := ⟨_, Tryz.func10, by kernel_rfl, by kernel_rfl⟩
theorem size38 : (Tryz.prog.info? 38).map (·.size) = some 1 := by kernel_rfl
instance : AgN Tryz.prog 38 := ⟨agg38⟩
instance : Fld Tryz.prog 40 0 0 := ⟨⟨_, _, _, Tryz.underlying40, rfl, size38, rfl⟩⟩
instance : Fld Tryz.prog 40 1 1 := ⟨⟨_, _, _, Tryz.underlying40, rfl, size3, rfl⟩⟩
/-
 slices.Equal of bytes.
-/
/-
 PatchBytes: the walk.
-/
theorem enters13 : Enters Tryz.prog 13 := ⟨_, Tryz.func13, by kernel_rfl, by kernel_rfl⟩
theorem enters21 : Enters Tryz.prog 21 := ⟨_, Tryz.func21, by kernel_rfl, by kernel_rfl⟩
set_option maxHeartbeats 4000000 in
theorem pbytes_big (Ao : Option Addr) (mo co : Nat) (B : List Int) (o n : Int) (H1 H2 : List Int) (hH1 : H1.length = 32) (hH2 : H2.length = 32) (A : Option Addr) (m c : Nat) (Cs : List CV) (p : Int) (w : World) (hsB : Src w Ao mo .u8 B) (hmo : mo ≤ co) (hco : co ≤ 9223372036854775807) (hBB : Bytes B) (bo : -9223372036854775808 ≤ o ∧ o ≤ 9223372036854775807) (bn : -9223372036854775808 ≤ n ∧ n ≤ 9223372036854775807) (hmc : m ≤ c) (hcm : c ≤ 9223372036854775807) (hN : NumsC Cs) (hC : SrcC w A m Cs) (hD : DatC w Cs) (hA : A = none → m = 0) (hB1 : Bytes H1) (hB2 : Bytes H2) (bp : -9223372036854775808 ≤ p ∧ p ≤ 9223372036854775807) (hMX : MaxC w) (h1 : 2 < w.heap.size) (hIV : RowI w 0 0 8 .u32 IV) (hK : RowI w 2 0 64 .u32 KT)(hb : 300 < mo) : Calls Tryz.prog 6 #[.slice Ao mo co, .agg (dV o n H1 H2 (slice A m c)).toArray, .int .i64 p] w fun e w' => e = .returned (.bool true) ∧ St w [] w' := by
 refine qM (args := [.slice Ao mo co, .agg (dV o n H1 H2 (slice A m c)).toArray, .int .i64 p]) Tryz.func6 rfl Tryz.ntmps6 (by simp) ?_
 refine qC [0, 1, 2] ?_
 iterate 2 refine gx ?_
 refine qr (qA rfl) rfl rfl rfl (cs := dV o n H1 H2 (slice A m c)) (by simp [Value.cells]) (tot := 67) (by simp [hH1, hH2]) (fun g1 hg1 => ?_)
 iterate 8 refine gx ?_
 refine qB (qA rfl) rfl (qS (zA rfl rfl rfl) (by omega)) ?_
 iterate 8 refine gx ?_
 refine qC [0, 2, 4, 6, 18] ?_
 refine qb rfl ?_
 iterate 2 refine gx ?_
 refine qL (qA rfl) rfl enters10 rfl rfl (v := .bool true) (fun w hs => alive8_c w (hMX.at_ hs (qD (by show g1 ≠ 1; omega) qE)) (Nat.lt_of_lt_of_le h1 hs.size) (hIV.keepH hs (by omega) (qD (by show g1 ≠ 0; omega) qE)) (hK.keepH hs h1 (qD (by show g1 ≠ 2; omega) qE))) ?_
 iterate 5 refine gx ?_
 exact qJ rfl rfl (fun w hs => ⟨rfl, ((hs.drop (by assumption)))⟩)
set_option maxHeartbeats 4000000 in
theorem pbytes_nofit (Ao : Option Addr) (mo co : Nat) (B : List Int) (o n : Int) (H1 H2 : List Int) (hH1 : H1.length = 32) (hH2 : H2.length = 32) (A : Option Addr) (m c : Nat) (Cs : List CV) (p : Int) (w : World) (hsB : Src w Ao mo .u8 B) (hmo : mo ≤ co) (hco : co ≤ 9223372036854775807) (hBB : Bytes B) (bo : -9223372036854775808 ≤ o ∧ o ≤ 9223372036854775807) (bn : -9223372036854775808 ≤ n ∧ n ≤ 9223372036854775807) (hmc : m ≤ c) (hcm : c ≤ 9223372036854775807) (hN : NumsC Cs) (hC : SrcC w A m Cs) (hD : DatC w Cs) (hA : A = none → m = 0) (hB1 : Bytes H1) (hB2 : Bytes H2) (bp : -9223372036854775808 ≤ p ∧ p ≤ 9223372036854775807) (hMX : MaxC w) (h1 : 2 < w.heap.size) (hIV : RowI w 0 0 8 .u32 IV) (hK : RowI w 2 0 64 .u32 KT)(hb : mo ≤ 300) (hft : ¬ fitsP o n Cs mo) : Calls Tryz.prog 6 #[.slice Ao mo co, .agg (dV o n H1 H2 (slice A m c)).toArray, .int .i64 p] w fun e w' => e = .returned (.bool true) ∧ St w [] w' := by
 refine qM (args := [.slice Ao mo co, .agg (dV o n H1 H2 (slice A m c)).toArray, .int .i64 p]) Tryz.func6 rfl Tryz.ntmps6 (by simp) ?_
 refine qC [0, 1, 2] ?_
 iterate 2 refine gx ?_
 refine qr (qA rfl) rfl rfl rfl (cs := dV o n H1 H2 (slice A m c)) (by simp [Value.cells]) (tot := 67) (by simp [hH1, hH2]) (fun g1 hg1 => ?_)
 iterate 8 refine gx ?_
 refine qB (qA rfl) rfl (qR (zA rfl rfl rfl) (by omega)) ?_
 iterate 3 refine gx ?_
 refine qL (qI rfl rfl rfl) rfl enters13 rfl rfl (v := .bool false) (fun w hs => (rfits8_c Ao mo co (by omega) o n H1 H2 hH1 hH2 A m c Cs (by omega) hN w (hC.at_ hs (fun b hb => (qD (by show g1 ≠ b; omega) qE)))).mono fun e w' h => by rw [decide_eq_false (p := fitsP o n Cs mo) hft] at h; exact h) ?_
 iterate 4 refine gx ?_
 refine qC [0, 2, 4, 6, 18] ?_
 refine qb rfl ?_
 iterate 2 refine gx ?_
 refine qL (qA rfl) rfl enters10 rfl rfl (v := .bool true) (fun w hs => alive8_c w (hMX.at_ hs (qD (by show g1 ≠ 1; omega) qE)) (Nat.lt_of_lt_of_le h1 hs.size) (hIV.keepH hs (by omega) (qD (by show g1 ≠ 0; omega) qE)) (hK.keepH hs h1 (qD (by show g1 ≠ 2; omega) qE))) ?_
 iterate 5 refine gx ?_
 exact qJ rfl rfl (fun w hs => ⟨rfl, ((hs.drop (by assumption)))⟩)
set_option maxHeartbeats 4000000 in
theorem pbytes_neg (Ao : Option Addr) (mo co : Nat) (B : List Int) (o n : Int) (H1 H2 : List Int) (hH1 : H1.length = 32) (hH2 : H2.length = 32) (A : Option Addr) (m c : Nat) (Cs : List CV) (p : Int) (w : World) (hsB : Src w Ao mo .u8 B) (hmo : mo ≤ co) (hco : co ≤ 9223372036854775807) (hBB : Bytes B) (bo : -9223372036854775808 ≤ o ∧ o ≤ 9223372036854775807) (bn : -9223372036854775808 ≤ n ∧ n ≤ 9223372036854775807) (hmc : m ≤ c) (hcm : c ≤ 9223372036854775807) (hN : NumsC Cs) (hC : SrcC w A m Cs) (hD : DatC w Cs) (hA : A = none → m = 0) (hB1 : Bytes H1) (hB2 : Bytes H2) (bp : -9223372036854775808 ≤ p ∧ p ≤ 9223372036854775807) (hMX : MaxC w) (h1 : 2 < w.heap.size) (hIV : RowI w 0 0 8 .u32 IV) (hK : RowI w 2 0 64 .u32 KT)(hb : mo ≤ 300) (hft : fitsP o n Cs mo) (hp : p < 0) : Calls Tryz.prog 6 #[.slice Ao mo co, .agg (dV o n H1 H2 (slice A m c)).toArray, .int .i64 p] w fun e w' => e = .returned (.bool true) ∧ St w [] w' := by
 have hft2 := hft
 unfold fitsP at hft2
 have hVC : ValidC o n Cs := hft.valid
 have hmm : m ≤ 1000000000 := by have := hft2.1.2; have := hC.1; omega
 have hf := hft2.1.q
 have hlen := hVC.len
 unfold okLen at hlen
 refine qM (args := [.slice Ao mo co, .agg (dV o n H1 H2 (slice A m c)).toArray, .int .i64 p]) Tryz.func6 rfl Tryz.ntmps6 (by simp) ?_
 refine qC [0, 1, 2] ?_
 iterate 2 refine gx ?_
 refine qr (qA rfl) rfl rfl rfl (cs := dV o n H1 H2 (slice A m c)) (by simp [Value.cells]) (tot := 67) (by simp [hH1, hH2]) (fun g1 hg1 => ?_)
 iterate 8 refine gx ?_
 refine qB (qA rfl) rfl (qR (zA rfl rfl rfl) (by omega)) ?_
 iterate 3 refine gx ?_
 refine qL (qI rfl rfl rfl) rfl enters13 rfl rfl (v := .bool true) (fun w hs => (rfits8_c Ao mo co (by omega) o n H1 H2 hH1 hH2 A m c Cs (by omega) hN w (hC.at_ hs (fun b hb => (qD (by show g1 ≠ b; omega) qE)))).mono fun e w' h => by rw [decide_eq_true (p := fitsP o n Cs mo) hft] at h; exact h) ?_
 iterate 4 refine gx ?_
 refine qC [0, 2, 4, 6, 18] ?_
 refine qV rfl ?_
 iterate 6 refine gx ?_
 refine qt (ι := (Option Addr × Nat) × List Ent) (V := fun y => .slice y.1.1 (newB B Cs n).length y.1.2) (R := fun y => Own w.heap.size 5 .u8 (.slice y.1.1 (newB B Cs n).length y.1.2) (newB B Cs n) y.2) (H' := fun y => [⟨g1, 26, dV o n H1 H2 (slice A m c), 67⟩] ++ y.2) (qA rfl) rfl enters14 rfl rfl (fun w hs => (rapply_s B Ao mo co hmo hco hBB o n H1 H2 hH1 hH2 A m c Cs (by omega) hN w (hC.at_ hs (fun b hb => (qD (by show g1 ≠ b; omega) qE))) (hsB.at_ hs (fun b hb => (qD (by show g1 ≠ b; omega) qE))) (hD.at_ hs (fun b hb => (qD (by show g1 ≠ b; omega) qE))) hVC (by omega) (by omega)).mono fun e w' ⟨A', c', He, he, ho, hw⟩ => ⟨((A', c'), He), he, own_mono ho hs.size, st_call hs hw ho.new⟩) (fun y hR => ?_)
 obtain ⟨⟨Aw, cw⟩, Hw⟩ := y
 dsimp only at hR ⊢
 have hOw := hR
 have hFw : Fresh w Hw := hOw.new
 have hLn := newB_len (B := B) (Cs := Cs) (n := n)
 have hcw : (newB B Cs n).length ≤ cw ∧ cw ≤ 9223372036854775807 := by obtain ⟨_, _, h1, h2, h3⟩ := hOw.form; simp only [slice.injEq] at h1; omega
 iterate 3 refine gx ?_
 refine qC [0, 2, 4, 6, 7] ?_
 iterate 5 refine gx ?_
 refine qL (qA rfl) rfl enters21 rfl rfl (v := .tuple #[.int .u8 0, .bool false]) (fun w hs => byte8_out B Ao mo co hmo hco o n H1 H2 hH1 hH2 A m c Cs hmm hN w (hC.at_ hs (fun b hb => (qa (qD (by show g1 ≠ b; omega) qE) (hFw.ne hb)))) (hD.at_ hs (fun b hb => (qa (qD (by show g1 ≠ b; omega) qE) (hFw.ne hb)))) hf (hsB.at_ hs (fun b hb => (qa (qD (by show g1 ≠ b; omega) qE) (hFw.ne hb)))) (by omega) (by omega) ⟨hft2.2.2.1, hft2.2.1⟩ p (by omega) (by omega)) ?_
 iterate 7 refine gx ?_
 refine qC [2, 6, 7, 8, 9] ?_
 iterate 4 refine gx ?_
 refine qB (qA rfl) rfl (qS (qm rfl rfl rfl) (by omega)) ?_
 iterate 8 refine gx ?_
 refine qC [2, 6, 7, 8, 9, 37] ?_
 refine qb rfl ?_
 iterate 2 refine gx ?_
 refine qL (qA rfl) rfl enters10 rfl rfl (v := .bool true) (fun w hs => alive8_c w (hMX.at_ hs (qa (qD (by show g1 ≠ 1; omega) qE) (hFw.ne hMX.1))) (Nat.lt_of_lt_of_le h1 hs.size) (hIV.keepH hs (by omega) (qa (qD (by show g1 ≠ 0; omega) qE) (hFw.ne (by omega)))) (hK.keepH hs h1 (qa (qD (by show g1 ≠ 2; omega) qE) (hFw.ne h1)))) ?_
 iterate 2 refine gx ?_
 refine qB (qI rfl rfl rfl) rfl (qS (qg rfl rfl rfl) rfl) ?_
 iterate 10 refine gx ?_
 exact qJ rfl rfl (fun w hs => ⟨rfl, (St.left (H := []) hs (qH (by assumption) hFw))⟩)
set_option maxHeartbeats 4000000 in
theorem pbytes_end (Ao : Option Addr) (mo co : Nat) (B : List Int) (o n : Int) (H1 H2 : List Int) (hH1 : H1.length = 32) (hH2 : H2.length = 32) (A : Option Addr) (m c : Nat) (Cs : List CV) (p : Int) (w : World) (hsB : Src w Ao mo .u8 B) (hmo : mo ≤ co) (hco : co ≤ 9223372036854775807) (hBB : Bytes B) (bo : -9223372036854775808 ≤ o ∧ o ≤ 9223372036854775807) (bn : -9223372036854775808 ≤ n ∧ n ≤ 9223372036854775807) (hmc : m ≤ c) (hcm : c ≤ 9223372036854775807) (hN : NumsC Cs) (hC : SrcC w A m Cs) (hD : DatC w Cs) (hA : A = none → m = 0) (hB1 : Bytes H1) (hB2 : Bytes H2) (bp : -9223372036854775808 ≤ p ∧ p ≤ 9223372036854775807) (hMX : MaxC w) (h1 : 2 < w.heap.size) (hIV : RowI w 0 0 8 .u32 IV) (hK : RowI w 2 0 64 .u32 KT)(hb : mo ≤ 300) (hft : fitsP o n Cs mo) (hp : n ≤ p ∧ 0 ≤ p) : Calls Tryz.prog 6 #[.slice Ao mo co, .agg (dV o n H1 H2 (slice A m c)).toArray, .int .i64 p] w fun e w' => e = .returned (.bool true) ∧ St w [] w' := by
 have hft2 := hft
 unfold fitsP at hft2
 have hVC : ValidC o n Cs := hft.valid
 have hmm : m ≤ 1000000000 := by have := hft2.1.2; have := hC.1; omega
 have hf := hft2.1.q
 have hlen := hVC.len
 unfold okLen at hlen
 refine qM (args := [.slice Ao mo co, .agg (dV o n H1 H2 (slice A m c)).toArray, .int .i64 p]) Tryz.func6 rfl Tryz.ntmps6 (by simp) ?_
 refine qC [0, 1, 2] ?_
 iterate 2 refine gx ?_
 refine qr (qA rfl) rfl rfl rfl (cs := dV o n H1 H2 (slice A m c)) (by simp [Value.cells]) (tot := 67) (by simp [hH1, hH2]) (fun g1 hg1 => ?_)
 iterate 8 refine gx ?_
 refine qB (qA rfl) rfl (qR (zA rfl rfl rfl) (by omega)) ?_
 iterate 3 refine gx ?_
 refine qL (qI rfl rfl rfl) rfl enters13 rfl rfl (v := .bool true) (fun w hs => (rfits8_c Ao mo co (by omega) o n H1 H2 hH1 hH2 A m c Cs (by omega) hN w (hC.at_ hs (fun b hb => (qD (by show g1 ≠ b; omega) qE)))).mono fun e w' h => by rw [decide_eq_true (p := fitsP o n Cs mo) hft] at h; exact h) ?_
 iterate 4 refine gx ?_
 refine qC [0, 2, 4, 6, 18] ?_
 refine qV rfl ?_
 iterate 6 refine gx ?_
 refine qt (ι := (Option Addr × Nat) × List Ent) (V := fun y => .slice y.1.1 (newB B Cs n).length y.1.2) (R := fun y => Own w.heap.size 5 .u8 (.slice y.1.1 (newB B Cs n).length y.1.2) (newB B Cs n) y.2) (H' := fun y => [⟨g1, 26, dV o n H1 H2 (slice A m c), 67⟩] ++ y.2) (qA rfl) rfl enters14 rfl rfl (fun w hs => (rapply_s B Ao mo co hmo hco hBB o n H1 H2 hH1 hH2 A m c Cs (by omega) hN w (hC.at_ hs (fun b hb => (qD (by show g1 ≠ b; omega) qE))) (hsB.at_ hs (fun b hb => (qD (by show g1 ≠ b; omega) qE))) (hD.at_ hs (fun b hb => (qD (by show g1 ≠ b; omega) qE))) hVC (by omega) (by omega)).mono fun e w' ⟨A', c', He, he, ho, hw⟩ => ⟨((A', c'), He), he, own_mono ho hs.size, st_call hs hw ho.new⟩) (fun y hR => ?_)
 obtain ⟨⟨Aw, cw⟩, Hw⟩ := y
 dsimp only at hR ⊢
 have hOw := hR
 have hFw : Fresh w Hw := hOw.new
 have hLn := newB_len (B := B) (Cs := Cs) (n := n)
 have hcw : (newB B Cs n).length ≤ cw ∧ cw ≤ 9223372036854775807 := by obtain ⟨_, _, h1, h2, h3⟩ := hOw.form; simp only [slice.injEq] at h1; omega
 iterate 3 refine gx ?_
 refine qC [0, 2, 4, 6, 7] ?_
 iterate 5 refine gx ?_
 refine qL (qA rfl) rfl enters21 rfl rfl (v := .tuple #[.int .u8 0, .bool false]) (fun w hs => byte8_out B Ao mo co hmo hco o n H1 H2 hH1 hH2 A m c Cs hmm hN w (hC.at_ hs (fun b hb => (qa (qD (by show g1 ≠ b; omega) qE) (hFw.ne hb)))) (hD.at_ hs (fun b hb => (qa (qD (by show g1 ≠ b; omega) qE) (hFw.ne hb)))) hf (hsB.at_ hs (fun b hb => (qa (qD (by show g1 ≠ b; omega) qE) (hFw.ne hb)))) (by omega) (by omega) ⟨hft2.2.2.1, hft2.2.1⟩ p (by omega) (by omega)) ?_
 iterate 7 refine gx ?_
 refine qC [2, 6, 7, 8, 9] ?_
 iterate 4 refine gx ?_
 refine qB (qA rfl) rfl (qR (qm rfl rfl rfl) (by omega)) ?_
 iterate 4 refine gx ?_
 refine qB (qI rfl rfl rfl) rfl (qS (Gets.geq rfl rfl rfl) (by omega)) ?_
 iterate 3 refine gx ?_
 refine qC [2, 6, 7, 8, 9, 37] ?_
 refine qb rfl ?_
 iterate 2 refine gx ?_
 refine qL (qA rfl) rfl enters10 rfl rfl (v := .bool true) (fun w hs => alive8_c w (hMX.at_ hs (qa (qD (by show g1 ≠ 1; omega) qE) (hFw.ne hMX.1))) (Nat.lt_of_lt_of_le h1 hs.size) (hIV.keepH hs (by omega) (qa (qD (by show g1 ≠ 0; omega) qE) (hFw.ne (by omega)))) (hK.keepH hs h1 (qa (qD (by show g1 ≠ 2; omega) qE) (hFw.ne h1)))) ?_
 iterate 2 refine gx ?_
 refine qB (qI rfl rfl rfl) rfl (qS (qg rfl rfl rfl) rfl) ?_
 iterate 10 refine gx ?_
 exact qJ rfl rfl (fun w hs => ⟨rfl, (St.left (H := []) hs (qH (by assumption) hFw))⟩)
set_option maxHeartbeats 4000000 in
theorem pbytes_in (Ao : Option Addr) (mo co : Nat) (B : List Int) (o n : Int) (H1 H2 : List Int) (hH1 : H1.length = 32) (hH2 : H2.length = 32) (A : Option Addr) (m c : Nat) (Cs : List CV) (j : Nat) (w : World) (hsB : Src w Ao mo .u8 B) (hmo : mo ≤ co) (hco : co ≤ 9223372036854775807) (hBB : Bytes B) (bo : -9223372036854775808 ≤ o ∧ o ≤ 9223372036854775807) (bn : -9223372036854775808 ≤ n ∧ n ≤ 9223372036854775807) (hmc : m ≤ c) (hcm : c ≤ 9223372036854775807) (hN : NumsC Cs) (hC : SrcC w A m Cs) (hD : DatC w Cs) (hA : A = none → m = 0) (hB1 : Bytes H1) (hB2 : Bytes H2) (hMX : MaxC w) (h1 : 2 < w.heap.size) (hIV : RowI w 0 0 8 .u32 IV) (hK : RowI w 2 0 64 .u32 KT)(hb : mo ≤ 300) (hft : fitsP o n Cs mo) (hp : (j : Int) < n) : Calls Tryz.prog 6 #[.slice Ao mo co, .agg (dV o n H1 H2 (slice A m c)).toArray, .int .i64 (j : Int)] w fun e w' => e = .returned (.bool true) ∧ St w [] w' := by
 have hft2 := hft
 unfold fitsP at hft2
 have hVC : ValidC o n Cs := hft.valid
 have hmm : m ≤ 1000000000 := by have := hft2.1.2; have := hC.1; omega
 have hf := hft2.1.q
 have hlen := hVC.len
 unfold okLen at hlen
 refine qM (args := [.slice Ao mo co, .agg (dV o n H1 H2 (slice A m c)).toArray, .int .i64 (j : Int)]) Tryz.func6 rfl Tryz.ntmps6 (by simp) ?_
 refine qC [0, 1, 2] ?_
 iterate 2 refine gx ?_
 refine qr (qA rfl) rfl rfl rfl (cs := dV o n H1 H2 (slice A m c)) (by simp [Value.cells]) (tot := 67) (by simp [hH1, hH2]) (fun g1 hg1 => ?_)
 iterate 8 refine gx ?_
 refine qB (qA rfl) rfl (qR (zA rfl rfl rfl) (by omega)) ?_
 iterate 3 refine gx ?_
 refine qL (qI rfl rfl rfl) rfl enters13 rfl rfl (v := .bool true) (fun w hs => (rfits8_c Ao mo co (by omega) o n H1 H2 hH1 hH2 A m c Cs (by omega) hN w (hC.at_ hs (fun b hb => (qD (by show g1 ≠ b; omega) qE)))).mono fun e w' h => by rw [decide_eq_true (p := fitsP o n Cs mo) hft] at h; exact h) ?_
 iterate 4 refine gx ?_
 refine qC [0, 2, 4, 6, 18] ?_
 refine qV rfl ?_
 iterate 6 refine gx ?_
 refine qt (ι := (Option Addr × Nat) × List Ent) (V := fun y => .slice y.1.1 (newB B Cs n).length y.1.2) (R := fun y => Own w.heap.size 5 .u8 (.slice y.1.1 (newB B Cs n).length y.1.2) (newB B Cs n) y.2) (H' := fun y => [⟨g1, 26, dV o n H1 H2 (slice A m c), 67⟩] ++ y.2) (qA rfl) rfl enters14 rfl rfl (fun w hs => (rapply_s B Ao mo co hmo hco hBB o n H1 H2 hH1 hH2 A m c Cs (by omega) hN w (hC.at_ hs (fun b hb => (qD (by show g1 ≠ b; omega) qE))) (hsB.at_ hs (fun b hb => (qD (by show g1 ≠ b; omega) qE))) (hD.at_ hs (fun b hb => (qD (by show g1 ≠ b; omega) qE))) hVC (by omega) (by omega)).mono fun e w' ⟨A', c', He, he, ho, hw⟩ => ⟨((A', c'), He), he, own_mono ho hs.size, st_call hs hw ho.new⟩) (fun y hR => ?_)
 obtain ⟨⟨Aw, cw⟩, Hw⟩ := y
 dsimp only at hR ⊢
 have hOw := hR
 have hFw : Fresh w Hw := hOw.new
 have hLn := newB_len (B := B) (Cs := Cs) (n := n)
 have hcw : (newB B Cs n).length ≤ cw ∧ cw ≤ 9223372036854775807 := by obtain ⟨_, _, h1, h2, h3⟩ := hOw.form; simp only [slice.injEq] at h1; omega
 iterate 3 refine gx ?_
 refine qC [0, 2, 4, 6, 7] ?_
 iterate 5 refine gx ?_
 refine qL (qA rfl) rfl enters21 rfl rfl (v := .tuple #[.int .u8 (byteI B Cs (j : Int)), .bool true]) (fun w hs => byte8_in B Ao mo co hmo hco o n H1 H2 hH1 hH2 A m c Cs hmm hN w (hC.at_ hs (fun b hb => (qa (qD (by show g1 ≠ b; omega) qE) (hFw.ne hb)))) (hD.at_ hs (fun b hb => (qa (qD (by show g1 ≠ b; omega) qE) (hFw.ne hb)))) hf (hsB.at_ hs (fun b hb => (qa (qD (by show g1 ≠ b; omega) qE) (hFw.ne hb)))) (by omega) (by omega) ⟨hft2.2.2.1, hft2.2.1⟩ (j : Int) (by omega) (by omega)) ?_
 iterate 7 refine gx ?_
 refine qC [2, 6, 7, 8, 9] ?_
 iterate 4 refine gx ?_
 refine qB (qA rfl) rfl (qR (qm rfl rfl rfl) (by omega)) ?_
 iterate 4 refine gx ?_
 refine qB (qI rfl rfl rfl) rfl (qR (Gets.geq rfl rfl rfl) (by omega)) ?_
 iterate 3 refine gx ?_
 refine qC [2, 6, 7, 8, 9, 37] ?_
 refine qV rfl ?_
 iterate 3 refine gx ?_
 have hgetj : byteI B Cs (j : Int) = (newB B Cs n).getD j 0 := by rw [List.getD_eq_getElem?_getD, newB_get (by omega)]; rfl
 obtain ⟨gw, kw, hAw, hHw, hgw, hkw, hkw2⟩ : ∃ g cap, slice Aw (newB B Cs n).length cw = .slice (some ⟨g, 0, none⟩) (newB B Cs n).length cap ∧ Hw = [⟨g, 5, (newB B Cs n).map (int .u8), cap⟩] ∧ w.heap.size ≤ g ∧ (newB B Cs n).length ≤ cap ∧ cap ≤ maxLen := (hOw.resolve_left (by rintro ⟨_, h, _⟩; rw [h] at hLn; simp at hLn; omega))
 simp only [slice.injEq, true_and] at hAw
 obtain ⟨rfl, rfl⟩ := hAw
 subst hHw
 refine TC.heap (H' := [⟨g1, 26, dV o n H1 H2 (slice A m c), 67⟩, ⟨gw, 5, (newB B Cs n).map (int .u8), cw⟩]) (fun w h => h) ?_
 refine gx ?_
 refine qL (qA rfl) rfl enters10 rfl rfl (v := .bool true) (fun w hs => alive8_c w (hMX.at_ hs (qD (by show g1 ≠ 1; omega) (qD (by show gw ≠ 1; omega) qE))) (Nat.lt_of_lt_of_le h1 hs.size) (hIV.keepH hs (by omega) (qD (by show g1 ≠ 0; omega) (qD (by show gw ≠ 0; omega) qE))) (hK.keepH hs h1 (qD (by show g1 ≠ 2; omega) (qD (by show gw ≠ 2; omega) qE)))) ?_
 iterate 4 refine gx ?_
 refine qB (qI rfl rfl rfl) rfl (qe rfl Tryz.underlying22 size5 rfl rfl (i := j) (by omega) (by omega) (off' := j) (by omega)) ?_
 refine qB (qI rfl rfl rfl) rfl (qN rfl agg5 rfl (qU (i := 1) (ent := ⟨gw, 5, (newB B Cs n).map (int .u8), cw⟩) (off := j) rfl rfl (by have := qn (kd := .u8) (W := (newB B Cs n)) (i := j) (by rw [newB_len]; omega); (first | exact this | (refine Eq.trans ?_ this; congr 1; omega))))) ?_
 refine qB (qI rfl rfl rfl) rfl (qS (qg rfl rfl rfl) hgetj) ?_
 iterate 8 refine gx ?_
 exact qJ rfl rfl (fun w hs => ⟨rfl, (((hs.drop (by assumption)).drop (by assumption)))⟩)
theorem patchBytes_walk (Ao : Option Addr) (mo co : Nat) (B : List Int) (o n : Int) (H1 H2 : List Int) (hH1 : H1.length = 32) (hH2 : H2.length = 32) (A : Option Addr) (m c : Nat) (Cs : List CV) (p : Int) (w : World) (hsB : Src w Ao mo .u8 B) (hmo : mo ≤ co) (hco : co ≤ 9223372036854775807) (hBB : Bytes B) (bo : -9223372036854775808 ≤ o ∧ o ≤ 9223372036854775807) (bn : -9223372036854775808 ≤ n ∧ n ≤ 9223372036854775807) (hmc : m ≤ c) (hcm : c ≤ 9223372036854775807) (hN : NumsC Cs) (hC : SrcC w A m Cs) (hD : DatC w Cs) (hA : A = none → m = 0) (hB1 : Bytes H1) (hB2 : Bytes H2) (bp : -9223372036854775808 ≤ p ∧ p ≤ 9223372036854775807) (hMX : MaxC w) (h1 : 2 < w.heap.size) (hIV : RowI w 0 0 8 .u32 IV) (hK : RowI w 2 0 64 .u32 KT): Calls Tryz.prog 6 #[.slice Ao mo co, .agg (dV o n H1 H2 (slice A m c)).toArray, .int .i64 p] w fun e w' => e = .returned (.bool true) ∧ St w [] w' := by
 by_cases hb : 300 < mo
 ·exact pbytes_big Ao mo co B o n H1 H2 hH1 hH2 A m c Cs p w hsB hmo hco hBB bo bn hmc hcm hN hC hD hA hB1 hB2 bp hMX h1 hIV hK hb
 ·by_cases hft : fitsP o n Cs mo
  ·by_cases h0 : p < 0
   ·exact pbytes_neg Ao mo co B o n H1 H2 hH1 hH2 A m c Cs p w hsB hmo hco hBB bo bn hmc hcm hN hC hD hA hB1 hB2 bp hMX h1 hIV hK (by omega) hft h0
   ·by_cases hn : p < n
    ·obtain ⟨j, rfl⟩ : ∃ j : Nat, p = j := ⟨p.toNat, by omega⟩
     exact pbytes_in Ao mo co B o n H1 H2 hH1 hH2 A m c Cs j w hsB hmo hco hBB bo bn hmc hcm hN hC hD hA hB1 hB2 hMX h1 hIV hK (by omega) hft hn
    ·exact pbytes_end Ao mo co B o n H1 H2 hH1 hH2 A m c Cs p w hsB hmo hco hBB bo bn hmc hcm hN hC hD hA hB1 hB2 bp hMX h1 hIV hK (by omega) hft (by omega)
  ·exact pbytes_nofit Ao mo co B o n H1 H2 hH1 hH2 A m c Cs p w hsB hmo hco hBB bo bn hmc hcm hN hC hD hA hB1 hB2 bp hMX h1 hIV hK (by omega) hft
theorem patchBytes_lifted (os : Os) (started : os.Started) (H : Type) (enc : TypeId × Value → H) :
  ReturnsInHanded {} Tryz.checked os 6 .any (fun w args => (Rows.patchBytesSpec.pre enc Tryz.prog Tryz.f6 [] false w args ∧ laidMetH Tryz.prog [("graft/sha.squareRoots", Rows.laid_graft_sha_squareRoots), ("graft/sha.cubeRoots", Rows.laid_graft_sha_cubeRoots)] w) ∧ sizedMet enc Tryz.prog Tryz.f6 (OpenSpec.ofChange Rows.patchBytesSpec) false w args) (Rows.patchBytesSpec.post enc Tryz.prog Tryz.f6 false true false false) := by
 refine returnsInHanded_both (C := Tryz.checked) (X := fun w _ => laidMetH Tryz.prog [("graft/sha.squareRoots", Rows.laid_graft_sha_squareRoots), ("graft/sha.cubeRoots", Rows.laid_graft_sha_cubeRoots)] w) (fun _ _ _ hh h => h.of_heap hh) own_knob started (by kernel_rfl) Tryz.func6
  (ChangeSpec.witness_shaped (enc := enc) (C := Tryz.checked) (os := os) (X := fun w _ => laidMetH Tryz.prog [("graft/sha.squareRoots", Rows.laid_graft_sha_squareRoots), ("graft/sha.cubeRoots", Rows.laid_graft_sha_cubeRoots)] w) false (World.doorLaid Tryz.prog 100 os) #[.slice none 0 0, .agg #[.int .i64 0, .int .i64 0, .int .u8 0, .int .u8 0, .int .u8 0, .int .u8 0, .int .u8 0, .int .u8 0, .int .u8 0, .int .u8 0, .int .u8 0, .int .u8 0, .int .u8 0, .int .u8 0, .int .u8 0, .int .u8 0, .int .u8 0, .int .u8 0, .int .u8 0, .int .u8 0, .int .u8 0, .int .u8 0, .int .u8 0, .int .u8 0, .int .u8 0, .int .u8 0, .int .u8 0, .int .u8 0, .int .u8 0, .int .u8 0, .int .u8 0, .int .u8 0, .int .u8 0, .int .u8 0, .int .u8 0, .int .u8 0, .int .u8 0, .int .u8 0, .int .u8 0, .int .u8 0, .int .u8 0, .int .u8 0, .int .u8 0, .int .u8 0, .int .u8 0, .int .u8 0, .int .u8 0, .int .u8 0, .int .u8 0, .int .u8 0, .int .u8 0, .int .u8 0, .int .u8 0, .int .u8 0, .int .u8 0, .int .u8 0, .int .u8 0, .int .u8 0, .int .u8 0, .int .u8 0, .int .u8 0, .int .u8 0, .int .u8 0, .int .u8 0, .int .u8 0, .int .u8 0, .slice none 0 0], .int .i64 0] 8 rfl (World.shaped_of_RefB (by kernel_rfl) (by kernel_rfl)) (by kernel_rfl) (by kernel_rfl) (by kernel_rfl) (door_met os _)) ?_
 intro W base args ds gs before hval0 hW hsz0 hL hSh
 have hval : ∀ (j : Nat) t v, Tryz.f6.params[j]? = some t → args[j]? = some v → Value.okWide Tryz.prog W .any base t v := hval0
 have hW' := hW
 obtain ⟨p, q, hA0, hV, rfl, hfz, hnd⟩ := hW
 have hA : DataW.TrodAll enc Tryz.prog W 0 (fun _ => true) true Tryz.f6.params.toList args.toList ds p := hA0
 have hsz : (DataW.weightsEach Tryz.prog (Tryz.f6.params.toList ++ Rows.patchBytesSpec.plain.varTypes Tryz.prog) (ds ++ gs)).all (· ≤ reachBytes) = true := hsz0
 rw [Tryz.params6] at hA hval hsz
 obtain ⟨v0, vs0, d0, ds0, p0, q0, hargs, rfl, rfl, h0, r0⟩ := trodAll_cons hA
 obtain ⟨v1, vs1, d1, ds1, p1, q1, rfl, rfl, rfl, h1, r1⟩ := trodAll_cons r0
 obtain ⟨v2, vs2, d2, ds2, p2, q2, rfl, rfl, rfl, h2, r2⟩ := trodAll_cons r1
 obtain ⟨rfl, rfl, rfl⟩ := trodAll_nil r2
 obtain rfl : args = #[v0, v1, v2] := by cases args; simp_all
 obtain ⟨rfl, rfl⟩ := trodVars_none hV
 have k0 := h0
 have lt0 : ∀ x ∈ p0, x.block < W.heap.size := by obtain ⟨m, hm⟩ := k0; exact DataW.trod_lt m _ _ _ hm
 have k1 := h1
 have lt1 : ∀ x ∈ p1, x.block < W.heap.size := by obtain ⟨m, hm⟩ := k1; exact DataW.trod_lt m _ _ _ hm
 have k2 := h2
 have lt2 : ∀ x ∈ p2, x.block < W.heap.size := by obtain ⟨m, hm⟩ := k2; exact DataW.trod_lt m _ _ _ hm
 obtain ⟨Aa, ma, ca, Ba, hv0, hmc0, hcm0, hs0, hB0⟩ := open_bytes Tryz.underlying22 Tryz.underlying5 (by kernel_rfl) (hval 0 22 v0 rfl rfl) h0
 subst hv0
 obtain ⟨od, nd, H1d, H2d, Ad, md, cd, Cd, hv1, bo1, bn1, hH11, hH21, hB11, hB21, hmc1, hcm1, hC1, hN1, hD1, hA1⟩ := open_dlt (hval 1 26 v1 rfl rfl) h1 (fun q hq => of_decide_eq_true (List.all_eq_true.1 hsz q (DataW.weights_mem_each (j := 1) (t := 26) (d := d1) rfl rfl q hq)))
 subst hv1
 obtain ⟨p, hv2, hd2, hp2, wf2⟩ := open_int Tryz.underlying3 (hval 2 3 v2 rfl rfl) h2
 have bd2 := wf_i64b wf2
 subst hv2
 obtain ⟨h1, hIV, hK⟩ := of_laid hL
 clear hA0 hval0 hsz0
 refine (patchBytes_walk Aa ma ca Ba od nd H1d H2d hH11 hH21 Ad md cd Cd p W hs0 hmc0 hcm0 hB0 bo1 bn1 hmc1 hcm1 hN1 hC1 hD1 hA1 hB11 hB21 bd2 (maxC_of hSh) h1 hIV hK).mono fun e W' ⟨he, hst⟩ => ?_
 have bel := hst.below
 subst he
 exact ⟨_, rfl, _, _, _, [], _, [], hW', trodAll_mk1 (shut_bool Tryz.underlying4 _), (trodAll_cons_mk (Below.trod laid_out (by kernel_rfl) (of_decide_eq_true (by kernel_rfl)) k0 bel lt0) (trodAll_cons_mk (Below.trod laid_out (by kernel_rfl) (of_decide_eq_true (by kernel_rfl)) k1 bel lt1) (trodAll_cons_mk (Below.trod laid_out (by kernel_rfl) (of_decide_eq_true (by kernel_rfl)) k2 bel lt2) trodAll_mk0))), rfl, bel.frame _, fun h => by cases h⟩
theorem patchBytes_said : Rows.PatchBytesSaid :=
 OpenClaim.holds_of_wide 6 Tryz.f6 rfl rfl rfl rfl rfl rfl rfl ⟨rfl, rfl, rfl, rfl, rfl⟩ rfl rfl rfl rfl rfl (by kernel_rfl) Tryz.func6 (by kernel_rfl)
  (of_decide_eq_true (by kernel_rfl)) (by unfold Func.isWrapper; first | (rw [if_pos (by decide +kernel)]; kernel_rfl) | (rw [if_neg (by decide +kernel)]; exact ⟨rfl, rfl⟩))
  (fun os started H enc _ => patchBytes_lifted os started H enc)
theorem patchBytes_holds : Rows.PatchBytesCardSaid :=
 Claim7.holds_tied_plain_at .later [] [.data, .data] true (true, "a5b5658e4295244dfd33ca341262ac0e53bd1c66653a9260470d657c4bf4a125") false
  patchBytes_said (fun _ h => by cases h) (by kernel_rfl) (fun _ h => by cases h) patchBytes_row_tie rfl ⟨rfl, rfl⟩ (by kernel_rfl) rfl
  (fun f fn hf hfn => by
   obtain rfl : f = 6 := Option.some.inj ((show Tryz.prog.funcNamed "graft/graftlaw08.PatchBytes" = some 6 by kernel_rfl).symm.trans hf) |>.symm
   obtain rfl : fn = Tryz.f6 := (Option.some.inj (Tryz.func6.symm.trans hfn)).symm
   exact ⟨by kernel_rfl, fun j t ht => by
    rw [Tryz.params6] at ht
    have hm : t ∈ ([3, 22, 26] : List Nat) := by have := Array.mem_of_getElem? ht; simp at this ⊢; first | omega | (rcases this with h | h <;> simp [h]) | (rcases this with h | h | h <;> simp [h])
    have hall : (([3, 22, 26] : List Nat).all fun u => !Tryz.prog.wantsStandIn u) = true := by kernel_rfl
    exact (show Tryz.prog.wantsStandIn t = false by simpa using List.all_eq_true.1 hall t hm)⟩)
  (by kernel_rfl)
end Go.Proofs.YtegddcklbmonfaaGreatDoor
