/-
  A region that draws its order, with a constant text among its operations: a block that is made, marked, and read at the region's end.
-/
import Derived.Test.YtclmgfcdnokaiaaFormatCuts7Pb
import Derived.Test.YtclmgfcdnokaiaaFormatCuts7Pa
/-
  Commands in a slice of the call's own.
-/
namespace Go.Proofs.Ytclmgfcdnokaiaa
set_option linter.unusedVariables false
set_option linter.unusedSimpArgs false
set_option linter.unusedVariables false
open Go Go.RowKit
/-! ### Commands in a slice of the call's own -/
def flatC (Cs : List CV) : List Value := Cs.flatMap cellsC
theorem cellsC_len (x : CV) : (cellsC x).length = 5 := rfl
theorem flatC_len (Cs : List CV) : (flatC Cs).length = Cs.length * 5 := by
  induction Cs with
  | nil => rfl
  | cons x l ih => unfold flatC at *; rw [List.flatMap_cons, List.length_append, ih, cellsC_len, List.length_cons]; omega
theorem flatC_app (Cs Es : List CV) : flatC (Cs ++ Es) = flatC Cs ++ flatC Es := by unfold flatC; rw [List.flatMap_append]
theorem flatC_one (x : CV) : flatC [x] = cellsC x := by unfold flatC; simp
theorem flatC_get : ∀ {Cs : List CV} {i : Nat} {x : CV} {j : Nat} {u : Value}, Cs[i]? = some x → (cellsC x)[j]? = some u → (flatC Cs)[5 * i + j]? = some u
  | [], i, x, j, u, h, _ => by simp at h
  | y :: l, 0, x, j, u, h, hu => by
    simp at h; subst h
    have hj : j < 5 := by have := (List.getElem?_eq_some_iff.1 hu).1; rw [cellsC_len] at this; exact this
    show (flatC ([y] ++ l))[5 * 0 + j]? = some u
    rw [flatC_app, flatC_one, List.getElem?_append_left (by rw [cellsC_len]; omega), Nat.mul_zero, Nat.zero_add]; exact hu
  | y :: l, i + 1, x, j, u, h, hu => by
    simp at h
    show (flatC ([y] ++ l))[5 * (i + 1) + j]? = some u
    rw [flatC_app, flatC_one, List.getElem?_append_right (by rw [cellsC_len]; omega), cellsC_len]
    have := flatC_get (Cs := l) h hu
    rw [← this]; congr 1; omega
theorem OwnS.srcC {N m c : Nat} {A : Option Addr} {t : TypeId} {Cs : List CV} {He : List Ent} {w : World} (h : OwnS N t 5 (.slice A m c) m (flatC Cs) He) (hs : ∀ e ∈ He, e.lies w) : SrcC w A m Cs := by
  have hl : Cs.length = m := by have := h.1; rw [flatC_len] at this; omega
  refine ⟨hl, ?_⟩
  rcases h.2 with ⟨h1, h2, rfl⟩ | ⟨g, cap, h1, rfl, hN, hc, hm⟩
  · exact .inl h2
  · cases h1
    have hlie := hs _ (List.mem_singleton.2 rfl)
    refine .inr ⟨g, 0, rfl, hlie.lt, fun i x hx j u hu => ?_⟩
    rw [show 0 + 5 * i + j = 5 * i + j by omega]
    exact hlie.cell (flatC_get hx hu)
end Go.Proofs.Ytclmgfcdnokaiaa
/-
  The reference of layer 7: Decode.
-/
namespace Go.Proofs.Ytclmgfcdnokaiaa
set_option linter.unusedVariables false
set_option linter.unusedSimpArgs false
open Go Go.RowKit
theorem agg25 : (isAgg 25).run Try.prog = fun w => .ok true w := isAgg_yes Try.underlying25 rfl
theorem mk47 : (Try.prog.info? 47).map (fun i => (i.zero, i.size, i.bytes)) = some (some (.agg #[.int .i64 0, .int .i64 0, .int .i64 0, .int .i64 0, .slice none 0 0]), 5, 56) := by kernel_rfl
theorem size25 : (Try.prog.info? 25).map (·.size) = some 67 := by kernel_rfl
theorem zero25 : (Try.prog.info? 25).bind (·.zero) = some (.agg #[.int .i64 0, .int .i64 0, .int .u8 0, .int .u8 0, .int .u8 0, .int .u8 0, .int .u8 0, .int .u8 0, .int .u8 0, .int .u8 0, .int .u8 0, .int .u8 0, .int .u8 0, .int .u8 0, .int .u8 0, .int .u8 0, .int .u8 0, .int .u8 0, .int .u8 0, .int .u8 0, .int .u8 0, .int .u8 0, .int .u8 0, .int .u8 0, .int .u8 0, .int .u8 0, .int .u8 0, .int .u8 0, .int .u8 0, .int .u8 0, .int .u8 0, .int .u8 0, .int .u8 0, .int .u8 0, .int .u8 0, .int .u8 0, .int .u8 0, .int .u8 0, .int .u8 0, .int .u8 0, .int .u8 0, .int .u8 0, .int .u8 0, .int .u8 0, .int .u8 0, .int .u8 0, .int .u8 0, .int .u8 0, .int .u8 0, .int .u8 0, .int .u8 0, .int .u8 0, .int .u8 0, .int .u8 0, .int .u8 0, .int .u8 0, .int .u8 0, .int .u8 0, .int .u8 0, .int .u8 0, .int .u8 0, .int .u8 0, .int .u8 0, .int .u8 0, .int .u8 0, .int .u8 0, .slice none 0 0]) := by kernel_rfl
theorem zero5 : (Try.prog.info? 5).bind (·.zero) = some (.int .u8 0) := by kernel_rfl
theorem magic_bytes : Bytes magicB := by intro x hx; unfold magicB at hx; simp only [List.mem_cons, List.not_mem_nil, or_false] at hx; omega
theorem OwnS.fr {w0 : World} {e : TypeId} {s nn : Nat} {v : Value} {cs : List Value} {He : List Ent} (h : OwnS w0.heap.size e s v nn cs He) : Fresh w0 He := h.new
def cmC (x : CV) : CM := ⟨x.k, x.t, x.f, x.l, x.B⟩
theorem versF_T {s : RS} {v : Int} (h1 : s.co = 0) (h2 : v ≠ 1) : versF s v = rFail s 10 4 := by unfold versF; rw [if_pos ⟨h1, h2⟩]
theorem versF_F {s : RS} {v : Int} (h : ¬ (s.co = 0 ∧ v ≠ 1)) : versF s v = s := by unfold versF; rw [if_neg h]
theorem extraF_F {B : List Int} {s : RS} (h : ¬ (s.co = 0 ∧ s.k < B.length)) : extraF B s = s := by unfold extraF; rw [if_neg h]
structure WD where
  i : Nat
  v : Value
  He : List Ent
  Es : List CV

structure WE where
  i : Nat
  W : List Int
  V : List Int
end Go.Proofs.Ytclmgfcdnokaiaa
/-
  The reference of layers 6 and 7: Append, Encode.
-/
namespace Go.Proofs.Ytclmgfcdnokaiaa
set_option linter.unusedVariables false
set_option linter.unusedSimpArgs false
open Go Go.RowKit
theorem enters25 : Enters Try.prog 25 := ⟨_, Try.func25, by kernel_rfl, by kernel_rfl⟩
set_option maxRecDepth 100000 in
set_option maxHeartbeats 400000 in
theorem rapp_c (x n : Int) (hn : 1 ≤ n ∧ n ≤ 8) (B : List Int) (A : Option Addr) (m c : Nat) (w : World) (hsB : Src w A m .u8 B) (hmc : m ≤ c) (hm : m ≤ 1000000) : Calls Try.prog 25 #[.slice A m c, .int .u64 x, .int .i64 n] w fun e w' => ∃ v He, e = .returned v ∧ Own w.heap.size 5 .u8 v (B ++ beV x n) He ∧ St w He w' := by
  refine calls_from (args := [.slice A m c, .int .u64 x, .int .i64 n]) Try.func25 rfl Try.ntmps25 (by simp) ?_
  refine TC.pr [0, 1, 2] ?_
  iterate 7 refine gx ?_
  refine TL.emptySlice (Wants.none rfl) rfl rfl Try.underlying28 size5 (fun g1 hg1 => ?_)
  refine gx ?_
  refine TL.appendOwn (H := []) (He := [⟨g1, 5, ([] : List Int).map (Value.int .u8), 0⟩]) (Wants.none rfl) rfl rfl Try.underlying28 mk5 rfl rfl rfl (W := []) (B := B) (.inr ⟨g1, 0, rfl, rfl, hg1, Nat.le_refl _, by unfold maxLen; omega⟩) (fun w hs => hsB.at_ hs (fun b hb => ne_app ne_nil (ne_cons (by show g1 ≠ b; omega) ne_nil))) (by simp only [List.length_nil]; omega) (by simp only [List.length_nil]; omega) (fun vo Ho ho hne => ?_)
  rw [List.nil_append] at ho
  iterate 7 refine gx ?_
  refine TL.gets (Wants.none rfl) rfl (Gets.sub rfl rfl rfl (r := (n - 1)) (w64 (by omega) (by omega))) ?_
  iterate 3 refine gx ?_
  refine TC.pr [1, 6, 7, 8] ?_
  refine gx ?_
  refine TC.loop (ι := WN) (fun x0 => [(1, .int .u64 x), (7, x0.v), (8, .int .i64 (n - (x0.k : Int) - 1))]) (fun x0 => [] ++ x0.He) (fun x0 => n.toNat - x0.k) (fun x0 => Own w.heap.size 5 .u8 x0.v (B ++ beP x n x0.k) x0.He ∧ x0.k ≤ n.toNat) (⟨0, vo, Ho⟩ : WN) ⟨by show Own _ _ _ vo (B ++ beP x n 0) Ho; rw [beP_zero, List.append_nil]; exact ho, by show 0 ≤ n.toNat; omega⟩ (Sub.int (i := 1) rfl (by first | rfl | omega) (Sub.cons (i := 7) rfl (Sub.int (i := 8) rfl (by show n - 1 = n - ((0 : Nat) : Int) - 1; omega) (Sub.nil)))) (fun w h => h) (fun x0 hC0 => ?_)
  obtain ⟨k, v, He⟩ := x0
  obtain ⟨hown, hC2⟩ := hC0
  dsimp only at hown hC2 ⊢
  iterate 7 refine gx ?_
  refine TC.split rfl (fun hq0 => ?_) (fun hq0 => ?_)
  · iterate 8 refine gx ?_
    refine TL.gets (Wants.none rfl) rfl (Gets.mul rfl rfl rfl (r := (8 * n - 8 * (k : Int) - 8)) (w64 (by omega) (by omega))) ?_
    refine TL.gets (Wants.none rfl) rfl (Gets.shr rfl rfl rfl (by omega) (r := (shrI .u64 x (8 * n - 8 * (k : Int) - 8))) rfl) ?_
    refine TL.gets (Wants.none rfl) rfl (Gets.conv rfl Try.underlying51 Try.underlying5 rfl (r := (IntKind.u8.wrap (shrI .u64 x (8 * n - 8 * (k : Int) - 8)))) rfl) ?_
    refine TL.buildSlice (Wants.none rfl) rfl rfl Try.underlying28 size5 zero5 rfl (by decide) (by decide) (cells := #[.int .u8 (IntKind.u8.wrap (shrI .u64 x (8 * n - 8 * (k : Int) - 8)))]) (tot := 1) (by kernel_rfl) (cs := [.int .u8 (IntKind.u8.wrap (shrI .u64 x (8 * n - 8 * (k : Int) - 8)))]) rfl rfl (fun g2 hg2 => ?_)
    refine TL.appendOwn (H := [⟨g2, 5, [Value.int .u8 (IntKind.u8.wrap (shrI .u64 x (8 * n - 8 * (k : Int) - 8)))], 1⟩]) (sl := 1) (t := 28) (e := 5) (kd := .u8) (Wants.none rfl) rfl rfl Try.underlying28 mk5 rfl rfl rfl (W := B ++ beP x n k) (B := [(IntKind.u8.wrap (shrI .u64 x (8 * n - 8 * (k : Int) - 8)))]) hown (fun w hs => src_ent (W := [(IntKind.u8.wrap (shrI .u64 x (8 * n - 8 * (k : Int) - 8)))]) (hs.has ⟨g2, 5, [Value.int .u8 (IntKind.u8.wrap (shrI .u64 x (8 * n - 8 * (k : Int) - 8)))], 1⟩ (by simp)) rfl) (by have := beP_len x n k; have hap : (B ++ beP x n k).length = B.length + (beP x n k).length := List.length_append; have hBl := hsB.1; omega) (by have := beP_len x n k; have hap : (B ++ beP x n k).length = B.length + (beP x n k).length := List.length_append; have hBl := hsB.1; omega) (fun vo Ho ho hne => ?_)
    iterate 4 refine gx ?_
    refine TC.pr [1, 7, 8] ?_
    iterate 2 refine gx ?_
    refine TL.gets (Wants.none rfl) rfl (Gets.sub rfl rfl rfl (r := (n - (k : Int) - 2)) (w64 (by omega) (by omega))) ?_
    iterate 2 refine gx ?_
    exact TE.back (⟨k + 1, vo, Ho⟩ : WN) (by show n.toNat - (k + 1) < n.toNat - k; omega) ⟨by show Own _ _ _ vo (B ++ beP x n (k + 1)) Ho; rw [beP_succ, ← List.append_assoc]; exact ho, by show k + 1 ≤ n.toNat; omega⟩ (Sub.int (i := 1) rfl (by first | rfl | omega) (Sub.cons (i := 7) rfl (Sub.int (i := 8) rfl (by show n - (k : Int) - 2 = n - ((k + 1 : Nat) : Int) - 1; omega) (Sub.nil)))) (fun w h => h.drop (by assumption))
  · obtain rfl : k = n.toNat := by omega
    iterate 12 refine gx ?_
    exact TE.ret1 rfl rfl (fun w hs => ⟨v, He, rfl, hown, hs⟩)

theorem be1k {k : Int} (h : k = 1 ∨ k = 2) : beV k 1 = [k] := by rcases h with rfl | rfl <;> decide +kernel
theorem enc_take {Cs : List CV} {i : Nat} {x : CV} (h : Cs[i]? = some x) : encCs ((Cs.take (i + 1)).map cmC) = encCs ((Cs.take i).map cmC) ++ encC (cmC x) := by
  rw [take_one h, List.map_append, encCs_app]
  show encCs ((Cs.take i).map cmC) ++ (encC (cmC x) ++ []) = _
  rw [List.append_nil]
theorem enc_step1 {x : CV} {W : List Int} (h : x.k = 1) : W ++ [x.k] ++ beV x.t 8 ++ beV x.f 8 ++ beV x.l 8 = W ++ encC (cmC x) := by
  unfold encC
  show _ = W ++ (beV x.k 1 ++ (beV x.t 8 ++ (if x.k = 1 then beV x.f 8 ++ beV x.l 8 else beV (x.B.length : Int) 8 ++ x.B)))
  rw [if_pos h, be1k (.inl h)]
  simp only [List.append_assoc]
theorem enc_step2 {x : CV} {W : List Int} (h : x.k = 2) (hm : x.B.length = x.m) : W ++ [x.k] ++ beV x.t 8 ++ beV (x.m : Int) 8 ++ x.B = W ++ encC (cmC x) := by
  unfold encC
  show _ = W ++ (beV x.k 1 ++ (beV x.t 8 ++ (if x.k = 1 then beV x.f 8 ++ beV x.l 8 else beV (x.B.length : Int) 8 ++ x.B)))
  rw [if_neg (by rw [h]; decide), be1k (.inr h), hm]
  simp only [List.append_assoc]
theorem encD_is {o n : Int} {H1 H2 : List Int} {Cs : List CV} {m : Nat} (h : Cs.length = m) : magicB ++ [1] ++ beV o 8 ++ beV n 8 ++ H1 ++ H2 ++ beV (m : Int) 4 ++ encCs (Cs.map cmC) = encD o n H1 H2 (Cs.map cmC) := by
  unfold encD
  rw [List.length_map, h, show beV 1 1 = [1] from be1k (.inl rfl)]
  simp only [List.append_assoc]
theorem Own.fr7 {w0 : World} {e : TypeId} {kd : IntKind} {v : Value} {W : List Int} {He : List Ent} (h : Own w0.heap.size e kd v W He) : Fresh w0 He := h.new
structure WG where
  i : Nat
  v : Value
  W : List Int
  He : List Ent

set_option maxRecDepth 100000 in
set_option maxHeartbeats 1000000 in
theorem rencode_c (o n : Int) (H1 H2 : List Int) (hH1 : H1.length = 32) (hH2 : H2.length = 32) (A : Option Addr) (m c : Nat) (Cs : List CV) (ho : 0 ≤ o ∧ o ≤ 4611686018427387903) (hn : 0 ≤ n ∧ n ≤ 4611686018427387903) (hmc : m ≤ c) (hcm : c ≤ 9223372036854775807) (hN : NumsC Cs) (hk : ∀ (i : Nat) (x : CV), Cs[i]? = some x → okK x) (hv : ∀ (i : Nat) (x : CV), Cs[i]? = some x → okV x) (hF : fewP Cs) (hm4 : m ≤ 40) (w : World) (hC : SrcC w A m Cs) (hD : DatC w Cs) : Calls Try.prog 14 #[.agg ([Value.int .i64 o, Value.int .i64 n] ++ (H1.map (Value.int .u8) ++ (H2.map (Value.int .u8) ++ ([Value.slice A m c])))).toArray] w fun e w' => ∃ v He, e = .returned v ∧ Own w.heap.size 5 .u8 v (encD o n H1 H2 (Cs.map cmC)) He ∧ St w He w' := by
  refine calls_from (args := [.agg ([Value.int .i64 o, Value.int .i64 n] ++ (H1.map (Value.int .u8) ++ (H2.map (Value.int .u8) ++ ([Value.slice A m c])))).toArray]) Try.func14 rfl Try.ntmps14 (by simp) ?_
  refine TC.pr [0] ?_
  iterate 2 refine gx ?_
  refine TL.box (Wants.none rfl) rfl rfl rfl (cs := [Value.int .i64 o, Value.int .i64 n] ++ (H1.map (Value.int .u8) ++ (H2.map (Value.int .u8) ++ ([Value.slice A m c])))) (by simp [Value.cells]) (tot := 67) (by simp [hH1, hH2]) (fun g1 hg1 => ?_)
  iterate 5 refine gx ?_
  refine TL.buildSlice (Wants.none rfl) rfl rfl Try.underlying28 size5 zero5 rfl (by decide) (by decide) (cells := #[.int .u8 71, .int .u8 82, .int .u8 70, .int .u8 84]) (tot := 4) (by kernel_rfl) (cs := [.int .u8 71, .int .u8 82, .int .u8 70, .int .u8 84]) rfl rfl (fun g2 hg2 => ?_)
  refine TL.mark2 (Wants.none rfl) rfl rfl Try.underlying28 Try.underlying5 rfl (i := 0) (ent := ⟨g2, 5, [Value.int .u8 71, Value.int .u8 82, Value.int .u8 70, Value.int .u8 84], 4⟩) rfl rfl (W := magicB) rfl (by omega) (fun w1 hap hw1 hrw hgw => ?_)
  have hw1' : St w [⟨g1, 25, [Value.int .i64 o, Value.int .i64 n] ++ (H1.map (Value.int .u8) ++ (H2.map (Value.int .u8) ++ ([Value.slice A m c]))), 67⟩] w1 := hw1
  have hn21 : g2 ≠ g1 := fun h => hap (⟨g1, 25, [Value.int .i64 o, Value.int .i64 n] ++ (H1.map (Value.int .u8) ++ (H2.map (Value.int .u8) ++ ([Value.slice A m c]))), 67⟩) (by simp) h.symm
  have l1 := hw1'.has (⟨g1, 25, [Value.int .i64 o, Value.int .i64 n] ++ (H1.map (Value.int .u8) ++ (H2.map (Value.int .u8) ++ ([Value.slice A m c]))), 67⟩) (by simp)
  have hM : Src w1 (some ⟨g2, 0, none⟩) 4 .u8 magicB := ⟨rfl, .inr ⟨g2, 0, rfl, hgw, hrw⟩⟩
  have hsz1 := hw1'.size
  have hlt1 : g1 < w1.heap.size := l1.lt
  refine TL.buildSlice (Wants.none rfl) rfl rfl Try.underlying28 size5 zero5 rfl (by decide) (by decide) (cells := #[.int .u8 1]) (tot := 1) (by kernel_rfl) (cs := [.int .u8 1]) rfl rfl (fun g3 hg3 => ?_)
  refine TL.appendFull (Wants.none rfl) rfl rfl Try.underlying28 mk5 rfl rfl rfl (W := magicB) (B := [1]) (fun w hs => hM.at_ hs (fun b hb => ne_cons (by show g3 ≠ b; omega) ne_nil)) (fun w hs => src_ent (W := [1]) (hs.has (⟨g3, 5, [Value.int .u8 1], 1⟩) (by simp)) rfl) (by decide) (fun h => by cases h) (by unfold maxLen; omega) (by omega) (fun v9 H9 hP9 hne9 => ?_)
  refine TL.heap (H' := [Ent.mk g1 25 ([Value.int .i64 o, Value.int .i64 n] ++ (H1.map (Value.int .u8) ++ (H2.map (Value.int .u8) ++ ([Value.slice A m c])))) 67] ++ ([Ent.mk g3 5 ([Value.int .u8 1]) 1] ++ H9)) (fun w h => h.take l1 (ne_app (ne_cons (by show g3 ≠ g1; omega) ne_nil) (hP9.ne (by omega)))) ?_
  refine TL.rebase3 hw1' rfl (by intro e he; rcases List.mem_append.1 he with h | h; rw [List.mem_singleton.1 h]; assumption; exact hP9.new e h) ?_
  have hO9 : Own w.heap.size 5 .u8 v9 (magicB ++ [1]) H9 := own_mono hP9 hsz1
  refine TL.heap (H' := [Ent.mk g1 25 ([Value.int .i64 o, Value.int .i64 n] ++ (H1.map (Value.int .u8) ++ (H2.map (Value.int .u8) ++ ([Value.slice A m c])))) 67] ++ H9) (fun w' h => st_dm h (Fresh.cons (by show w.heap.size ≤ g3; omega) Fresh.nil)) ?_
  have hL9 : (magicB ++ [1]).length = 5 := by rfl
  obtain ⟨A9, c9, rfl, hc9, hd9⟩ := hO9.form
  iterate 8 refine gx ?_
  refine TL.gets (Wants.none rfl) rfl (Gets.conv rfl Try.underlying3 Try.underlying51 rfl (r := o) (wu64 rfl (by omega))) ?_
  refine TL.call (ι := Value × List Ent) (V := fun y => y.1) (R := fun y => Own w.heap.size 5 .u8 y.1 (magicB ++ [1] ++ beV o 8) y.2) (H' := fun y => [⟨g1, 25, [Value.int .i64 o, Value.int .i64 n] ++ (H1.map (Value.int .u8) ++ (H2.map (Value.int .u8) ++ ([Value.slice A m c]))), 67⟩] ++ H9 ++ y.2) (Wants.none rfl) rfl enters25 rfl rfl (fun w hs => (rapp_c o 8 (by decide) (magicB ++ [1]) A9 _ c9 w (hO9.srcOf (fun e he => hs.has e (by simp [he]))) (by omega) (by omega)).mono fun e w' ⟨v, He, he, ho, hw⟩ => ⟨(v, He), he, own_mono ho hs.size, st_call hs hw ho.new⟩) (fun y hR => ?_)
  obtain ⟨v14, H14⟩ := y
  dsimp only at hR ⊢
  have hO14 : Own w.heap.size 5 .u8 v14 (magicB ++ [1] ++ beV o 8) H14 := hR
  have hL14 : (magicB ++ [1] ++ beV o 8).length = 5 + 8 := by rw [List.length_append, hL9, be8_len]
  obtain ⟨A14, c14, rfl, hc14, hd14⟩ := hO14.form
  refine TL.heap (H' := [⟨g1, 25, [Value.int .i64 o, Value.int .i64 n] ++ (H1.map (Value.int .u8) ++ (H2.map (Value.int .u8) ++ ([Value.slice A m c]))), 67⟩] ++ H14) (fun w h => st_dm (by rw [← List.append_assoc]; exact h) hO9.fr7) ?_
  iterate 3 refine gx ?_
  refine TC.pr [1, 2, 3] ?_
  iterate 5 refine gx ?_
  refine TL.gets (Wants.none rfl) rfl (Gets.conv rfl Try.underlying3 Try.underlying51 rfl (r := n) (wu64 rfl (by omega))) ?_
  refine TL.call (ι := Value × List Ent) (V := fun y => y.1) (R := fun y => Own w.heap.size 5 .u8 y.1 (magicB ++ [1] ++ beV o 8 ++ beV n 8) y.2) (H' := fun y => [⟨g1, 25, [Value.int .i64 o, Value.int .i64 n] ++ (H1.map (Value.int .u8) ++ (H2.map (Value.int .u8) ++ ([Value.slice A m c]))), 67⟩] ++ H14 ++ y.2) (Wants.none rfl) rfl enters25 rfl rfl (fun w hs => (rapp_c n 8 (by decide) (magicB ++ [1] ++ beV o 8) A14 _ c14 w (hO14.srcOf (fun e he => hs.has e (by simp [he]))) (by omega) (by omega)).mono fun e w' ⟨v, He, he, ho, hw⟩ => ⟨(v, He), he, own_mono ho hs.size, st_call hs hw ho.new⟩) (fun y hR => ?_)
  obtain ⟨v19, H19⟩ := y
  dsimp only at hR ⊢
  have hO19 : Own w.heap.size 5 .u8 v19 (magicB ++ [1] ++ beV o 8 ++ beV n 8) H19 := hR
  have hL19 : (magicB ++ [1] ++ beV o 8 ++ beV n 8).length = 5 + 8 + 8 := by rw [List.length_append, hL14, be8_len]
  obtain ⟨A19, c19, rfl, hc19, hd19⟩ := hO19.form
  refine TL.heap (H' := [⟨g1, 25, [Value.int .i64 o, Value.int .i64 n] ++ (H1.map (Value.int .u8) ++ (H2.map (Value.int .u8) ++ ([Value.slice A m c]))), 67⟩] ++ H19) (fun w h => st_dm (by rw [← List.append_assoc]; exact h) hO14.fr7) ?_
  iterate 7 refine gx ?_
  refine TL.gets (Wants.none rfl) rfl (Gets.sliceA rfl Try.underlying22 size5 rfl bnd.dflt bnd.dflt (by omega) (by omega) (cutA_zero _ _ _) (ln := 32) (cp := 32) (by omega) (by omega)) ?_
  refine TL.appendOwn (H := [Ent.mk g1 25 ([Value.int .i64 o, Value.int .i64 n] ++ (H1.map (Value.int .u8) ++ (H2.map (Value.int .u8) ++ ([Value.slice A m c])))) 67]) (He := H19) (Wants.none rfl) rfl rfl Try.underlying28 mk5 rfl rfl rfl (W := magicB ++ [1] ++ beV o 8 ++ beV n 8) (B := H1) hO19 (fun w hs => src_seg (g := g1) (t := 25) (tot := 67) (X := [Value.int .i64 o, Value.int .i64 n]) (R := (H2.map (Value.int .u8) ++ [.slice A m c])) (W := H1) ((hs.has (⟨g1, 25, [Value.int .i64 o, Value.int .i64 n] ++ (H1.map (Value.int .u8) ++ (H2.map (Value.int .u8) ++ ([Value.slice A m c]))), 67⟩) (by simp))) (rfl) hH1) (by first | omega | (unfold maxLen; omega)) (by omega) (fun v23 H23 hO23 hne23 => ?_)
  have hL23 : (magicB ++ [1] ++ beV o 8 ++ beV n 8 ++ H1).length = 5 + 8 + 8 + 32 := by rw [List.length_append, hL19, hH1]
  obtain ⟨A23, c23, rfl, hc23, hd23⟩ := hO23.form
  iterate 3 refine gx ?_
  refine TC.pr [1, 2, 3] ?_
  iterate 4 refine gx ?_
  refine TL.gets (Wants.none rfl) rfl (Gets.sliceA rfl Try.underlying22 size5 rfl bnd.dflt bnd.dflt (by omega) (by omega) (cutA_zero _ _ _) (ln := 32) (cp := 32) (by omega) (by omega)) ?_
  refine TL.appendOwn (H := [Ent.mk g1 25 ([Value.int .i64 o, Value.int .i64 n] ++ (H1.map (Value.int .u8) ++ (H2.map (Value.int .u8) ++ ([Value.slice A m c])))) 67]) (He := H23) (Wants.none rfl) rfl rfl Try.underlying28 mk5 rfl rfl rfl (W := magicB ++ [1] ++ beV o 8 ++ beV n 8 ++ H1) (B := H2) hO23 (fun w hs => src_seg (g := g1) (t := 25) (tot := 67) (X := ([Value.int .i64 o, Value.int .i64 n] ++ H1.map (Value.int .u8))) (R := [.slice A m c]) (W := H2) (by rw [List.append_assoc]; exact (hs.has (⟨g1, 25, [Value.int .i64 o, Value.int .i64 n] ++ (H1.map (Value.int .u8) ++ (H2.map (Value.int .u8) ++ ([Value.slice A m c]))), 67⟩) (by simp))) (by simp [hH1]) hH2) (by first | omega | (unfold maxLen; omega)) (by omega) (fun v27 H27 hO27 hne27 => ?_)
  have hL27 : (magicB ++ [1] ++ beV o 8 ++ beV n 8 ++ H1 ++ H2).length = 5 + 8 + 8 + 32 + 32 := by rw [List.length_append, hL23, hH2]
  obtain ⟨A27, c27, rfl, hc27, hd27⟩ := hO27.form
  iterate 9 refine gx ?_
  refine TL.gets (Wants.none rfl) rfl (Gets.conv rfl Try.underlying3 Try.underlying51 rfl (r := (m : Int)) (wu64 rfl (by omega))) ?_
  refine TL.call (ι := Value × List Ent) (V := fun y => y.1) (R := fun y => Own w.heap.size 5 .u8 y.1 (magicB ++ [1] ++ beV o 8 ++ beV n 8 ++ H1 ++ H2 ++ beV (m : Int) 4) y.2) (H' := fun y => [⟨g1, 25, [Value.int .i64 o, Value.int .i64 n] ++ (H1.map (Value.int .u8) ++ (H2.map (Value.int .u8) ++ ([Value.slice A m c]))), 67⟩] ++ H27 ++ y.2) (Wants.none rfl) rfl enters25 rfl rfl (fun w hs => (rapp_c (m : Int) 4 (by decide) (magicB ++ [1] ++ beV o 8 ++ beV n 8 ++ H1 ++ H2) A27 _ c27 w (hO27.srcOf (fun e he => hs.has e (by simp [he]))) (by omega) (by omega)).mono fun e w' ⟨v, He, he, ho, hw⟩ => ⟨(v, He), he, own_mono ho hs.size, st_call hs hw ho.new⟩) (fun y hR => ?_)
  obtain ⟨v33, H33⟩ := y
  dsimp only at hR ⊢
  have hO33 : Own w.heap.size 5 .u8 v33 (magicB ++ [1] ++ beV o 8 ++ beV n 8 ++ H1 ++ H2 ++ beV (m : Int) 4) H33 := hR
  have hL33 : (magicB ++ [1] ++ beV o 8 ++ beV n 8 ++ H1 ++ H2 ++ beV (m : Int) 4).length = 5 + 8 + 8 + 32 + 32 + 4 := by rw [List.length_append, hL27, be4_len]
  obtain ⟨A33, c33, rfl, hc33, hd33⟩ := hO33.form
  refine TL.heap (H' := [⟨g1, 25, [Value.int .i64 o, Value.int .i64 n] ++ (H1.map (Value.int .u8) ++ (H2.map (Value.int .u8) ++ ([Value.slice A m c]))), 67⟩] ++ H33) (fun w h => st_dm (by rw [← List.append_assoc]; exact h) hO27.fr7) ?_
  iterate 3 refine gx ?_
  refine TC.pr [1, 2, 3] ?_
  iterate 7 refine gx ?_
  refine TC.loop (ι := WG) (fun x0 => [(1, .pointer (some ⟨g1, 0, none⟩)), (3, x0.v), (4, .int .i64 (x0.i : Int))]) (fun x0 => [⟨g1, 25, [Value.int .i64 o, Value.int .i64 n] ++ (H1.map (Value.int .u8) ++ (H2.map (Value.int .u8) ++ ([Value.slice A m c]))), 67⟩] ++ x0.He) (fun x0 => m - x0.i) (fun x0 => Own w.heap.size 5 .u8 x0.v x0.W x0.He ∧ x0.W = (magicB ++ [1] ++ beV o 8 ++ beV n 8 ++ H1 ++ H2 ++ beV (m : Int) 4) ++ encCs ((Cs.take x0.i).map cmC) ∧ x0.W.length ≤ 89 + 325 * x0.i ∧ x0.i ≤ m) (⟨0, .slice A33 (magicB ++ [1] ++ beV o 8 ++ beV n 8 ++ H1 ++ H2 ++ beV (m : Int) 4).length c33, (magicB ++ [1] ++ beV o 8 ++ beV n 8 ++ H1 ++ H2 ++ beV (m : Int) 4), H33⟩ : WG) ⟨hO33, (by show (magicB ++ [1] ++ beV o 8 ++ beV n 8 ++ H1 ++ H2 ++ beV (m : Int) 4) = (magicB ++ [1] ++ beV o 8 ++ beV n 8 ++ H1 ++ H2 ++ beV (m : Int) 4) ++ []; rw [List.append_nil]), (by show (magicB ++ [1] ++ beV o 8 ++ beV n 8 ++ H1 ++ H2 ++ beV (m : Int) 4).length ≤ 89 + 325 * 0; omega), Nat.zero_le _⟩ (Sub.cons (i := 1) rfl (Sub.cons (i := 3) rfl (Sub.int (i := 4) rfl rfl (Sub.nil)))) (fun w h => h) (fun x0 hC0 => ?_)
  obtain ⟨i, v, W, He⟩ := x0
  obtain ⟨hO0, hW, hWl, him⟩ := hC0
  dsimp only at hO0 hW hWl him ⊢
  have hL0 : W.length = W.length := rfl
  obtain ⟨A0, c0, rfl, hc0, hd0⟩ := hO0.form
  iterate 10 refine gx ?_
  refine TC.split rfl (fun hq0 => ?_) (fun hq0 => ?_)
  · obtain ⟨b, off, hAe, hb, hrw⟩ := hC.some_ (i := i) (by omega)
    subst hAe
    obtain ⟨x, hx⟩ := hC.get (i := i) (by omega)
    have hnx := hN i x hx
    unfold NumC at hnx
    have hlbx := lenV_bd (k := x.k) (l := x.l) (m := x.m) (by omega) (by omega)
    have hkx := hk i x hx
    unfold okK at hkx
    have hvx := hv i x hx
    unfold okV inR at hvx
    have hdx := hD i x hx
    have hmx := hF.1 i x hx
    iterate 9 refine gx ?_
    refine TL.gets (Wants.none rfl) rfl (Gets.idxSlice rfl Try.underlying23 size47 rfl rfl (i := i) (by omega) (by omega) (off' := (off + 5 * i)) (by omega)) ?_
    refine TL.gets (Wants.none rfl) rfl (Gets.loadN rfl agg47 size47 rfl rfl (Row.old (fun jj u h => hrw i x hx jj u h) hb (ne_app (ne_cons (by show g1 ≠ b; omega) ne_nil) (hO0.fr7.ne hb)))) ?_
    refine TL.al (fun g4 hg4 => ?_)
    refine TL.storeW (Wants.none rfl) rfl rfl size47 rfl (vs := [Value.int .i64 x.k, Value.int .i64 x.t, Value.int .i64 x.f, Value.int .i64 x.l, Value.slice x.A x.m x.c]) rfl (by simp []) (by simp [Value.oneCell']) (i := 0) (ent := ⟨g4, 47, [Value.int .i64 0, Value.int .i64 0, Value.int .i64 0, Value.int .i64 0, Value.slice none 0 0], 5⟩) rfl rfl (by simp []) (H' := [⟨g4, 47, [Value.int .i64 x.k, Value.int .i64 x.t, Value.int .i64 x.f, Value.int .i64 x.l, Value.slice x.A x.m x.c], 5⟩, ⟨g1, 25, [Value.int .i64 o, Value.int .i64 n] ++ (H1.map (Value.int .u8) ++ (H2.map (Value.int .u8) ++ ([Value.slice (some ⟨b, off, none⟩) m c]))), 67⟩] ++ He) rfl ?_
    iterate 2 refine gx ?_
    refine TC.pr [1, 3, 4, 5] ?_
    iterate 5 refine gx ?_
    refine TL.gets (Wants.none rfl) rfl (Gets.conv rfl Try.underlying3 Try.underlying5 rfl (r := x.k) (wu8 rfl (by omega))) ?_
    refine TL.buildSlice (Wants.none rfl) rfl rfl Try.underlying28 size5 zero5 rfl (by decide) (by decide) (cells := #[.int .u8 x.k]) (tot := 1) (by kernel_rfl) (cs := [.int .u8 x.k]) rfl rfl (fun g5 hg5 => ?_)
    refine TL.appendOwn (H := [Ent.mk g5 5 ([Value.int .u8 x.k]) 1, Ent.mk g4 47 ([Value.int .i64 x.k, Value.int .i64 x.t, Value.int .i64 x.f, Value.int .i64 x.l, Value.slice x.A x.m x.c]) 5, Ent.mk g1 25 ([Value.int .i64 o, Value.int .i64 n] ++ (H1.map (Value.int .u8) ++ (H2.map (Value.int .u8) ++ ([Value.slice (some ⟨b, off, none⟩) m c])))) 67]) (He := He) (Wants.none rfl) rfl rfl Try.underlying28 mk5 rfl rfl rfl (W := W) (B := [x.k]) hO0 (fun w hs => src_ent (W := [x.k]) (hs.has ⟨g5, 5, [Value.int .u8 x.k], 1⟩ (by simp)) rfl) (by first | omega | (unfold maxLen; omega)) (by omega) (fun v51 H51 hO51 hne51 => ?_)
    have hL51 : (W ++ [x.k]).length = W.length + 1 := by rw [List.length_append, hL0]; rfl
    obtain ⟨A51, c51, rfl, hc51, hd51⟩ := hO51.form
    iterate 3 refine gx ?_
    refine TC.pr [1, 3, 4, 5] ?_
    iterate 5 refine gx ?_
    refine TL.gets (Wants.none rfl) rfl (Gets.conv rfl Try.underlying3 Try.underlying51 rfl (r := x.t) (wu64 rfl (by omega))) ?_
    refine TL.call (ι := Value × List Ent) (V := fun y => y.1) (R := fun y => Own w.heap.size 5 .u8 y.1 (W ++ [x.k] ++ beV x.t 8) y.2) (H' := fun y => [⟨g5, 5, [Value.int .u8 x.k], 1⟩, ⟨g4, 47, [Value.int .i64 x.k, Value.int .i64 x.t, Value.int .i64 x.f, Value.int .i64 x.l, Value.slice x.A x.m x.c], 5⟩, ⟨g1, 25, [Value.int .i64 o, Value.int .i64 n] ++ (H1.map (Value.int .u8) ++ (H2.map (Value.int .u8) ++ ([Value.slice (some ⟨b, off, none⟩) m c]))), 67⟩] ++ H51 ++ y.2) (Wants.none rfl) rfl enters25 rfl rfl (fun w hs => (rapp_c x.t 8 (by decide) (W ++ [x.k]) A51 _ c51 w (hO51.srcOf (fun e he => hs.has e (by simp [he]))) (by omega) (by omega)).mono fun e w' ⟨v, He, he, ho, hw⟩ => ⟨(v, He), he, own_mono ho hs.size, st_call hs hw ho.new⟩) (fun y hR => ?_)
    obtain ⟨v56, H56⟩ := y
    dsimp only at hR ⊢
    have hO56 : Own w.heap.size 5 .u8 v56 (W ++ [x.k] ++ beV x.t 8) H56 := hR
    have hL56 : (W ++ [x.k] ++ beV x.t 8).length = W.length + 1 + 8 := by rw [List.length_append, hL51, be8_len]
    obtain ⟨A56, c56, rfl, hc56, hd56⟩ := hO56.form
    refine TL.heap (H' := [⟨g5, 5, [Value.int .u8 x.k], 1⟩, ⟨g4, 47, [Value.int .i64 x.k, Value.int .i64 x.t, Value.int .i64 x.f, Value.int .i64 x.l, Value.slice x.A x.m x.c], 5⟩, ⟨g1, 25, [Value.int .i64 o, Value.int .i64 n] ++ (H1.map (Value.int .u8) ++ (H2.map (Value.int .u8) ++ ([Value.slice (some ⟨b, off, none⟩) m c]))), 67⟩] ++ H56) (fun w h => st_dm (by rw [← List.append_assoc]; exact h) hO51.fr7) ?_
    iterate 3 refine gx ?_
    refine TC.pr [1, 3, 4, 5] ?_
    iterate 4 refine gx ?_
    by_cases c1 : x.k = 1
    · refine TL.gets (Wants.none rfl) rfl (Gets.isTrue (Gets.eql rfl rfl rfl) c1) ?_
      iterate 2 refine gx ?_
      refine TC.yes rfl ?_
      iterate 5 refine gx ?_
      refine TL.gets (Wants.none rfl) rfl (Gets.conv rfl Try.underlying3 Try.underlying51 rfl (r := x.f) (wu64 rfl (by omega))) ?_
      refine TL.call (ι := Value × List Ent) (V := fun y => y.1) (R := fun y => Own w.heap.size 5 .u8 y.1 (W ++ [x.k] ++ beV x.t 8 ++ beV x.f 8) y.2) (H' := fun y => [⟨g5, 5, [Value.int .u8 x.k], 1⟩, ⟨g4, 47, [Value.int .i64 x.k, Value.int .i64 x.t, Value.int .i64 x.f, Value.int .i64 x.l, Value.slice x.A x.m x.c], 5⟩, ⟨g1, 25, [Value.int .i64 o, Value.int .i64 n] ++ (H1.map (Value.int .u8) ++ (H2.map (Value.int .u8) ++ ([Value.slice (some ⟨b, off, none⟩) m c]))), 67⟩] ++ H56 ++ y.2) (Wants.none rfl) rfl enters25 rfl rfl (fun w hs => (rapp_c x.f 8 (by decide) (W ++ [x.k] ++ beV x.t 8) A56 _ c56 w (hO56.srcOf (fun e he => hs.has e (by simp [he]))) (by omega) (by omega)).mono fun e w' ⟨v, He, he, ho, hw⟩ => ⟨(v, He), he, own_mono ho hs.size, st_call hs hw ho.new⟩) (fun y hR => ?_)
      obtain ⟨v64, H64⟩ := y
      dsimp only at hR ⊢
      have hO64 : Own w.heap.size 5 .u8 v64 (W ++ [x.k] ++ beV x.t 8 ++ beV x.f 8) H64 := hR
      have hL64 : (W ++ [x.k] ++ beV x.t 8 ++ beV x.f 8).length = W.length + 1 + 8 + 8 := by rw [List.length_append, hL56, be8_len]
      obtain ⟨A64, c64, rfl, hc64, hd64⟩ := hO64.form
      refine TL.heap (H' := [⟨g5, 5, [Value.int .u8 x.k], 1⟩, ⟨g4, 47, [Value.int .i64 x.k, Value.int .i64 x.t, Value.int .i64 x.f, Value.int .i64 x.l, Value.slice x.A x.m x.c], 5⟩, ⟨g1, 25, [Value.int .i64 o, Value.int .i64 n] ++ (H1.map (Value.int .u8) ++ (H2.map (Value.int .u8) ++ ([Value.slice (some ⟨b, off, none⟩) m c]))), 67⟩] ++ H64) (fun w h => st_dm (by rw [← List.append_assoc]; exact h) hO56.fr7) ?_
      iterate 3 refine gx ?_
      refine TC.pr [1, 3, 4, 5] ?_
      iterate 4 refine gx ?_
      refine TL.gets (Wants.none rfl) rfl (Gets.conv rfl Try.underlying3 Try.underlying51 rfl (r := x.l) (wu64 rfl (by omega))) ?_
      refine TL.call (ι := Value × List Ent) (V := fun y => y.1) (R := fun y => Own w.heap.size 5 .u8 y.1 (W ++ [x.k] ++ beV x.t 8 ++ beV x.f 8 ++ beV x.l 8) y.2) (H' := fun y => [⟨g5, 5, [Value.int .u8 x.k], 1⟩, ⟨g4, 47, [Value.int .i64 x.k, Value.int .i64 x.t, Value.int .i64 x.f, Value.int .i64 x.l, Value.slice x.A x.m x.c], 5⟩, ⟨g1, 25, [Value.int .i64 o, Value.int .i64 n] ++ (H1.map (Value.int .u8) ++ (H2.map (Value.int .u8) ++ ([Value.slice (some ⟨b, off, none⟩) m c]))), 67⟩] ++ H64 ++ y.2) (Wants.none rfl) rfl enters25 rfl rfl (fun w hs => (rapp_c x.l 8 (by decide) (W ++ [x.k] ++ beV x.t 8 ++ beV x.f 8) A64 _ c64 w (hO64.srcOf (fun e he => hs.has e (by simp [he]))) (by omega) (by omega)).mono fun e w' ⟨v, He, he, ho, hw⟩ => ⟨(v, He), he, own_mono ho hs.size, st_call hs hw ho.new⟩) (fun y hR => ?_)
      obtain ⟨v69, H69⟩ := y
      dsimp only at hR ⊢
      have hO69 : Own w.heap.size 5 .u8 v69 (W ++ [x.k] ++ beV x.t 8 ++ beV x.f 8 ++ beV x.l 8) H69 := hR
      have hL69 : (W ++ [x.k] ++ beV x.t 8 ++ beV x.f 8 ++ beV x.l 8).length = W.length + 1 + 8 + 8 + 8 := by rw [List.length_append, hL64, be8_len]
      obtain ⟨A69, c69, rfl, hc69, hd69⟩ := hO69.form
      refine TL.heap (H' := [⟨g5, 5, [Value.int .u8 x.k], 1⟩, ⟨g4, 47, [Value.int .i64 x.k, Value.int .i64 x.t, Value.int .i64 x.f, Value.int .i64 x.l, Value.slice x.A x.m x.c], 5⟩, ⟨g1, 25, [Value.int .i64 o, Value.int .i64 n] ++ (H1.map (Value.int .u8) ++ (H2.map (Value.int .u8) ++ ([Value.slice (some ⟨b, off, none⟩) m c]))), 67⟩] ++ H69) (fun w h => st_dm (by rw [← List.append_assoc]; exact h) hO64.fr7) ?_
      iterate 4 refine gx ?_
      refine TC.pr [1, 3, 4] ?_
      iterate 2 refine gx ?_
      refine TL.gets (Wants.none rfl) rfl (Gets.add rfl rfl rfl (r := ((i : Int) + 1)) (w64 (by omega) (by omega))) ?_
      iterate 2 refine gx ?_
      exact TE.back (⟨i + 1, .slice A69 (W ++ [x.k] ++ beV x.t 8 ++ beV x.f 8 ++ beV x.l 8).length c69, W ++ [x.k] ++ beV x.t 8 ++ beV x.f 8 ++ beV x.l 8, H69⟩ : WG) (by show m - (i + 1) < m - i; omega) ⟨hO69, (by show W ++ [x.k] ++ beV x.t 8 ++ beV x.f 8 ++ beV x.l 8 = _; rw [enc_step1 c1, enc_take hx, hW, List.append_assoc]), (by show (W ++ [x.k] ++ beV x.t 8 ++ beV x.f 8 ++ beV x.l 8).length ≤ 89 + 325 * (i + 1); omega), (by show i + 1 ≤ m; omega)⟩ (Sub.cons (i := 1) rfl (Sub.cons (i := 3) rfl (Sub.int (i := 4) rfl (by show (i : Int) + 1 = ((i + 1 : Nat) : Int); omega) (Sub.nil)))) (fun w h => ((h.drop (by assumption)).drop (by assumption)))
    · refine TL.gets (Wants.none rfl) rfl (Gets.isFalse (Gets.eql rfl rfl rfl) c1) ?_
      iterate 2 refine gx ?_
      refine TC.no rfl ?_
      iterate 6 refine gx ?_
      refine TL.gets (Wants.none rfl) rfl (Gets.conv rfl Try.underlying3 Try.underlying51 rfl (r := (x.m : Int)) (wu64 rfl (by omega))) ?_
      refine TL.call (ι := Value × List Ent) (V := fun y => y.1) (R := fun y => Own w.heap.size 5 .u8 y.1 (W ++ [x.k] ++ beV x.t 8 ++ beV (x.m : Int) 8) y.2) (H' := fun y => [⟨g5, 5, [Value.int .u8 x.k], 1⟩, ⟨g4, 47, [Value.int .i64 x.k, Value.int .i64 x.t, Value.int .i64 x.f, Value.int .i64 x.l, Value.slice x.A x.m x.c], 5⟩, ⟨g1, 25, [Value.int .i64 o, Value.int .i64 n] ++ (H1.map (Value.int .u8) ++ (H2.map (Value.int .u8) ++ ([Value.slice (some ⟨b, off, none⟩) m c]))), 67⟩] ++ H56 ++ y.2) (Wants.none rfl) rfl enters25 rfl rfl (fun w hs => (rapp_c (x.m : Int) 8 (by decide) (W ++ [x.k] ++ beV x.t 8) A56 _ c56 w (hO56.srcOf (fun e he => hs.has e (by simp [he]))) (by omega) (by omega)).mono fun e w' ⟨v, He, he, ho, hw⟩ => ⟨(v, He), he, own_mono ho hs.size, st_call hs hw ho.new⟩) (fun y hR => ?_)
      obtain ⟨v75, H75⟩ := y
      dsimp only at hR ⊢
      have hO75 : Own w.heap.size 5 .u8 v75 (W ++ [x.k] ++ beV x.t 8 ++ beV (x.m : Int) 8) H75 := hR
      have hL75 : (W ++ [x.k] ++ beV x.t 8 ++ beV (x.m : Int) 8).length = W.length + 1 + 8 + 8 := by rw [List.length_append, hL56, be8_len]
      obtain ⟨A75, c75, rfl, hc75, hd75⟩ := hO75.form
      refine TL.heap (H' := [⟨g5, 5, [Value.int .u8 x.k], 1⟩, ⟨g4, 47, [Value.int .i64 x.k, Value.int .i64 x.t, Value.int .i64 x.f, Value.int .i64 x.l, Value.slice x.A x.m x.c], 5⟩, ⟨g1, 25, [Value.int .i64 o, Value.int .i64 n] ++ (H1.map (Value.int .u8) ++ (H2.map (Value.int .u8) ++ ([Value.slice (some ⟨b, off, none⟩) m c]))), 67⟩] ++ H75) (fun w h => st_dm (by rw [← List.append_assoc]; exact h) hO56.fr7) ?_
      iterate 3 refine gx ?_
      refine TC.pr [1, 3, 4, 5] ?_
      iterate 4 refine gx ?_
      refine TL.appendOwn (H := [Ent.mk g5 5 ([Value.int .u8 x.k]) 1, Ent.mk g4 47 ([Value.int .i64 x.k, Value.int .i64 x.t, Value.int .i64 x.f, Value.int .i64 x.l, Value.slice x.A x.m x.c]) 5, Ent.mk g1 25 ([Value.int .i64 o, Value.int .i64 n] ++ (H1.map (Value.int .u8) ++ (H2.map (Value.int .u8) ++ ([Value.slice (some ⟨b, off, none⟩) m c])))) 67]) (He := H75) (Wants.none rfl) rfl rfl Try.underlying28 mk5 rfl rfl rfl (W := W ++ [x.k] ++ beV x.t 8 ++ beV (x.m : Int) 8) (B := x.B) hO75 (fun w hs => hdx.1.at_ hs (fun b hb => ne_app (ne_cons (by show g5 ≠ b; omega) (ne_cons (by show g4 ≠ b; omega) (ne_cons (by show g1 ≠ b; omega) ne_nil))) (hO75.ne hb))) (by first | omega | (unfold maxLen; omega)) (by omega) (fun v79 H79 hO79 hne79 => ?_)
      have hL79 : (W ++ [x.k] ++ beV x.t 8 ++ beV (x.m : Int) 8 ++ x.B).length = W.length + 1 + 8 + 8 + x.m := by rw [List.length_append, hL75, hdx.1.1]
      obtain ⟨A79, c79, rfl, hc79, hd79⟩ := hO79.form
      iterate 6 refine gx ?_
      refine TL.gets (Wants.none rfl) rfl (Gets.add rfl rfl rfl (r := ((i : Int) + 1)) (w64 (by omega) (by omega))) ?_
      iterate 2 refine gx ?_
      exact TE.back (⟨i + 1, .slice A79 (W ++ [x.k] ++ beV x.t 8 ++ beV (x.m : Int) 8 ++ x.B).length c79, W ++ [x.k] ++ beV x.t 8 ++ beV (x.m : Int) 8 ++ x.B, H79⟩ : WG) (by show m - (i + 1) < m - i; omega) ⟨hO79, (by show W ++ [x.k] ++ beV x.t 8 ++ beV (x.m : Int) 8 ++ x.B = _; rw [enc_step2 (by omega) hdx.1.1, enc_take hx, hW, List.append_assoc]), (by show (W ++ [x.k] ++ beV x.t 8 ++ beV (x.m : Int) 8 ++ x.B).length ≤ 89 + 325 * (i + 1); omega), (by show i + 1 ≤ m; omega)⟩ (Sub.cons (i := 1) rfl (Sub.cons (i := 3) rfl (Sub.int (i := 4) rfl (by show (i : Int) + 1 = ((i + 1 : Nat) : Int); omega) (Sub.nil)))) (fun w h => ((h.drop (by assumption)).drop (by assumption)))
  · obtain rfl : m = i := by omega
    have htk : Cs.take m = Cs := List.take_of_length_le (by have := hC.1; omega)
    rw [htk] at hW
    iterate 12 refine gx ?_
    exact TE.ret1 rfl rfl (fun w hs => ⟨_, He, rfl, by rw [← encD_is hC.1, ← hW]; exact hO0, hs.drop (by assumption)⟩)
end Go.Proofs.Ytclmgfcdnokaiaa
/-
  The code of layer 6: validSize, bits.Len64.
-/
namespace Go.Proofs.Ytclmgfcdnokaiaa
set_option linter.unusedVariables false
set_option linter.unusedSimpArgs false
open Go Go.RowKit

set_option maxRecDepth 100000 in
set_option maxHeartbeats 400000 in
theorem vsize_c (n : Int) (w : World) : Calls Try.prog 55 #[.int .i64 n] w fun e w' => e = .returned (.bool (decide (1 ≤ n ∧ n ≤ 8))) ∧ St w [] w' := by
  refine calls_from (args := [.int .i64 n]) Try.func55 rfl Try.ntmps55 (by simp) ?_
  refine TC.pr [0] ?_
  iterate 8 refine gx ?_
  by_cases c1 : 1 ≤ n
  · refine TL.gets (Wants.none rfl) rfl (Gets.isTrue (Gets.geq rfl rfl rfl) c1) ?_
    iterate 2 refine gx ?_
    by_cases c2 : n ≤ 8
    · refine TL.gets (Wants.yes rfl rfl rfl) rfl (Gets.isTrue (Gets.leq rfl rfl rfl) c2) ?_
      iterate 5 refine gx ?_
      exact TE.ret1 rfl rfl (fun w hs => ⟨dec_t (by omega), hs⟩)
    · refine TL.gets (Wants.yes rfl rfl rfl) rfl (Gets.isFalse (Gets.leq rfl rfl rfl) c2) ?_
      iterate 5 refine gx ?_
      exact TE.ret1 rfl rfl (fun w hs => ⟨dec_f (by omega), hs⟩)
  · refine TL.gets (Wants.none rfl) rfl (Gets.isFalse (Gets.geq rfl rfl rfl) c1) ?_
    iterate 8 refine gx ?_
    exact TE.ret1 rfl rfl (fun w hs => ⟨dec_f (by omega), hs⟩)


theorem ba_get (b : ByteArray) {y : Nat} (h : y < b.size) : b[y]'h = b.data.getD y 0 := by
  show b.data[y]'h = _
  rw [Array.getD_eq_getD_getElem?, Array.getElem?_eq_getElem (show y < b.data.size from h)]; rfl
def lenTab : ByteArray := ⟨List.toArray (List.append (List.append [0, 1, 2, 2, 3, 3, 3, 3, 4, 4, 4, 4, 4, 4, 4, 4, 5, 5, 5, 5, 5, 5, 5, 5, 5, 5, 5, 5, 5, 5, 5, 5, 6, 6, 6, 6, 6, 6, 6, 6, 6, 6, 6, 6, 6, 6, 6, 6, 6, 6, 6, 6, 6, 6, 6, 6, 6, 6, 6, 6, 6, 6, 6, 6] [7, 7, 7, 7, 7, 7, 7, 7, 7, 7, 7, 7, 7, 7, 7, 7, 7, 7, 7, 7, 7, 7, 7, 7, 7, 7, 7, 7, 7, 7, 7, 7, 7, 7, 7, 7, 7, 7, 7, 7, 7, 7, 7, 7, 7, 7, 7, 7, 7, 7, 7, 7, 7, 7, 7, 7, 7, 7, 7, 7, 7, 7, 7, 7]) (List.append [8, 8, 8, 8, 8, 8, 8, 8, 8, 8, 8, 8, 8, 8, 8, 8, 8, 8, 8, 8, 8, 8, 8, 8, 8, 8, 8, 8, 8, 8, 8, 8, 8, 8, 8, 8, 8, 8, 8, 8, 8, 8, 8, 8, 8, 8, 8, 8, 8, 8, 8, 8, 8, 8, 8, 8, 8, 8, 8, 8, 8, 8, 8, 8] [8, 8, 8, 8, 8, 8, 8, 8, 8, 8, 8, 8, 8, 8, 8, 8, 8, 8, 8, 8, 8, 8, 8, 8, 8, 8, 8, 8, 8, 8, 8, 8, 8, 8, 8, 8, 8, 8, 8, 8, 8, 8, 8, 8, 8, 8, 8, 8, 8, 8, 8, 8, 8, 8, 8, 8, 8, 8, 8, 8, 8, 8, 8, 8]))⟩
theorem lenTab_size : lenTab.size = 256 := by decide +kernel
theorem lenTab_all : ∀ y : Fin 256, (lenTab.data.getD y.1 0).toNat = lenB y.1 := by decide +kernel
theorem lenTab_at {y : Nat} (h : y < lenTab.size) : ((lenTab[y]'h).toNat : Int) = (lenB y : Int) := by
  have h2 : y < 256 := by rw [lenTab_size] at h; exact h
  have h3 := lenTab_all ⟨y, h2⟩
  rw [ba_get lenTab h, h3]

set_option maxRecDepth 100000 in
set_option maxHeartbeats 400000 in
theorem len64_c (x : Nat) (hx : x < 18446744073709551616) (w : World) : Calls Try.prog 56 #[.int .u64 (x : Int)] w fun e w' => e = .returned (.int .i64 (lenB x : Int)) ∧ St w [] w' := by
  refine calls_from (args := [.int .u64 (x : Int)]) Try.func56 rfl Try.ntmps56 (by simp) ?_
  refine TC.pr [0] ?_
  iterate 12 refine gx ?_
  refine TC.split rfl (fun h0 => ?_) (fun h0 => ?_)
  · iterate 3 refine gx ?_
    obtain ⟨y6, hy6⟩ : ∃ y6 : Nat, y6 = x / 4294967296 := ⟨_, rfl⟩
    have ly6 : lenB x = lenB y6 + 32 := lenB_shr (s := 32) (by omega) hy6
    refine TL.gets (Wants.none rfl) rfl (Gets.shr rfl rfl rfl (by omega) (r := (y6 : Int)) (by rw [hy6]; exact shr_nat (q := 32) (by omega))) ?_
    iterate 14 refine gx ?_
    refine TC.split rfl (fun h1 => ?_) (fun h1 => ?_)
    · iterate 3 refine gx ?_
      obtain ⟨y10, hy10⟩ : ∃ y10 : Nat, y10 = y6 / 65536 := ⟨_, rfl⟩
      have ly10 : lenB y6 = lenB y10 + 16 := lenB_shr (s := 16) (by omega) hy10
      refine TL.gets (Wants.none rfl) rfl (Gets.shr rfl rfl rfl (by omega) (r := (y10 : Int)) (by rw [hy10]; exact shr_nat (q := 16) (by omega))) ?_
      iterate 3 refine gx ?_
      refine TC.pr [0, 2] ?_
      iterate 2 refine gx ?_
      refine TL.gets (Wants.none rfl) rfl (Gets.add rfl rfl rfl (r := 48) (w64 (by omega) (by omega))) ?_
      iterate 10 refine gx ?_
      refine TC.split rfl (fun h2 => ?_) (fun h2 => ?_)
      · iterate 3 refine gx ?_
        obtain ⟨y16, hy16⟩ : ∃ y16 : Nat, y16 = y10 / 256 := ⟨_, rfl⟩
        have ly16 : lenB y10 = lenB y16 + 8 := lenB_shr (s := 8) (by omega) hy16
        refine TL.gets (Wants.none rfl) rfl (Gets.shr rfl rfl rfl (by omega) (r := (y16 : Int)) (by rw [hy16]; exact shr_nat (q := 8) (by omega))) ?_
        iterate 5 refine gx ?_
        refine TL.gets (Wants.none rfl) rfl (Gets.add rfl rfl rfl (r := 56) (w64 (by omega) (by omega))) ?_
        iterate 3 refine gx ?_
        refine TC.pr [0, 2] ?_
        iterate 4 refine gx ?_
        refine TL.gets (Wants.none rfl) rfl (Gets.conv rfl Try.underlying51 Try.underlying5 rfl (r := (y16 : Int)) (wu8 rfl (by omega))) ?_
        have hlb : lenB y16 ≤ 8 := (lenB_le (q := 8)).2 (by omega)
        refine TL.gets (Wants.none rfl) rfl (Gets.congr (Gets.indexStr (str := lenTab) rfl Try.underlying9 rfl rfl (i := y16) rfl (by rw [lenTab_size]; omega)) (by rw [lenTab_at])) ?_
        refine TL.gets (Wants.none rfl) rfl (Gets.conv rfl Try.underlying5 Try.underlying3 rfl (r := ((lenB y16) : Int)) (w64 rfl (by omega))) ?_
        refine TL.gets (Wants.none rfl) rfl (Gets.add rfl rfl rfl (r := (((lenB y16) : Int) + 56)) (w64 (by omega) (by omega))) ?_
        iterate 4 refine gx ?_
        exact TE.ret1 rfl rfl (fun w hs => ⟨ret_i (by omega), hs⟩)
      · iterate 6 refine gx ?_
        refine TL.gets (Wants.none rfl) rfl (Gets.conv rfl Try.underlying51 Try.underlying5 rfl (r := (y10 : Int)) (wu8 rfl (by omega))) ?_
        have hlb : lenB y10 ≤ 8 := (lenB_le (q := 8)).2 (by omega)
        refine TL.gets (Wants.none rfl) rfl (Gets.congr (Gets.indexStr (str := lenTab) rfl Try.underlying9 rfl rfl (i := y10) rfl (by rw [lenTab_size]; omega)) (by rw [lenTab_at])) ?_
        refine TL.gets (Wants.none rfl) rfl (Gets.conv rfl Try.underlying5 Try.underlying3 rfl (r := ((lenB y10) : Int)) (w64 rfl (by omega))) ?_
        refine TL.gets (Wants.none rfl) rfl (Gets.add rfl rfl rfl (r := (((lenB y10) : Int) + 48)) (w64 (by omega) (by omega))) ?_
        iterate 4 refine gx ?_
        exact TE.ret1 rfl rfl (fun w hs => ⟨ret_i (by omega), hs⟩)
    · iterate 9 refine gx ?_
      refine TC.pr [0, 2, 14] ?_
      refine TC.split rfl (fun h2 => ?_) (fun h2 => ?_)
      · iterate 3 refine gx ?_
        obtain ⟨y16, hy16⟩ : ∃ y16 : Nat, y16 = y6 / 256 := ⟨_, rfl⟩
        have ly16 : lenB y6 = lenB y16 + 8 := lenB_shr (s := 8) (by omega) hy16
        refine TL.gets (Wants.none rfl) rfl (Gets.shr rfl rfl rfl (by omega) (r := (y16 : Int)) (by rw [hy16]; exact shr_nat (q := 8) (by omega))) ?_
        iterate 5 refine gx ?_
        refine TL.gets (Wants.none rfl) rfl (Gets.add rfl rfl rfl (r := 40) (w64 (by omega) (by omega))) ?_
        iterate 7 refine gx ?_
        refine TL.gets (Wants.none rfl) rfl (Gets.conv rfl Try.underlying51 Try.underlying5 rfl (r := (y16 : Int)) (wu8 rfl (by omega))) ?_
        have hlb : lenB y16 ≤ 8 := (lenB_le (q := 8)).2 (by omega)
        refine TL.gets (Wants.none rfl) rfl (Gets.congr (Gets.indexStr (str := lenTab) rfl Try.underlying9 rfl rfl (i := y16) rfl (by rw [lenTab_size]; omega)) (by rw [lenTab_at])) ?_
        refine TL.gets (Wants.none rfl) rfl (Gets.conv rfl Try.underlying5 Try.underlying3 rfl (r := ((lenB y16) : Int)) (w64 rfl (by omega))) ?_
        refine TL.gets (Wants.none rfl) rfl (Gets.add rfl rfl rfl (r := (((lenB y16) : Int) + 40)) (w64 (by omega) (by omega))) ?_
        iterate 4 refine gx ?_
        exact TE.ret1 rfl rfl (fun w hs => ⟨ret_i (by omega), hs⟩)
      · iterate 6 refine gx ?_
        refine TL.gets (Wants.none rfl) rfl (Gets.conv rfl Try.underlying51 Try.underlying5 rfl (r := (y6 : Int)) (wu8 rfl (by omega))) ?_
        have hlb : lenB y6 ≤ 8 := (lenB_le (q := 8)).2 (by omega)
        refine TL.gets (Wants.none rfl) rfl (Gets.congr (Gets.indexStr (str := lenTab) rfl Try.underlying9 rfl rfl (i := y6) rfl (by rw [lenTab_size]; omega)) (by rw [lenTab_at])) ?_
        refine TL.gets (Wants.none rfl) rfl (Gets.conv rfl Try.underlying5 Try.underlying3 rfl (r := ((lenB y6) : Int)) (w64 rfl (by omega))) ?_
        refine TL.gets (Wants.none rfl) rfl (Gets.add rfl rfl rfl (r := (((lenB y6) : Int) + 32)) (w64 (by omega) (by omega))) ?_
        iterate 4 refine gx ?_
        exact TE.ret1 rfl rfl (fun w hs => ⟨ret_i (by omega), hs⟩)
  · iterate 9 refine gx ?_
    refine TC.split rfl (fun h1 => ?_) (fun h1 => ?_)
    · iterate 3 refine gx ?_
      obtain ⟨y10, hy10⟩ : ∃ y10 : Nat, y10 = x / 65536 := ⟨_, rfl⟩
      have ly10 : lenB x = lenB y10 + 16 := lenB_shr (s := 16) (by omega) hy10
      refine TL.gets (Wants.none rfl) rfl (Gets.shr rfl rfl rfl (by omega) (r := (y10 : Int)) (by rw [hy10]; exact shr_nat (q := 16) (by omega))) ?_
      iterate 5 refine gx ?_
      refine TL.gets (Wants.none rfl) rfl (Gets.add rfl rfl rfl (r := 16) (w64 (by omega) (by omega))) ?_
      iterate 3 refine gx ?_
      refine TC.pr [0, 2] ?_
      iterate 7 refine gx ?_
      refine TC.split rfl (fun h2 => ?_) (fun h2 => ?_)
      · iterate 3 refine gx ?_
        obtain ⟨y16, hy16⟩ : ∃ y16 : Nat, y16 = y10 / 256 := ⟨_, rfl⟩
        have ly16 : lenB y10 = lenB y16 + 8 := lenB_shr (s := 8) (by omega) hy16
        refine TL.gets (Wants.none rfl) rfl (Gets.shr rfl rfl rfl (by omega) (r := (y16 : Int)) (by rw [hy16]; exact shr_nat (q := 8) (by omega))) ?_
        iterate 5 refine gx ?_
        refine TL.gets (Wants.none rfl) rfl (Gets.add rfl rfl rfl (r := 24) (w64 (by omega) (by omega))) ?_
        iterate 7 refine gx ?_
        refine TL.gets (Wants.none rfl) rfl (Gets.conv rfl Try.underlying51 Try.underlying5 rfl (r := (y16 : Int)) (wu8 rfl (by omega))) ?_
        have hlb : lenB y16 ≤ 8 := (lenB_le (q := 8)).2 (by omega)
        refine TL.gets (Wants.none rfl) rfl (Gets.congr (Gets.indexStr (str := lenTab) rfl Try.underlying9 rfl rfl (i := y16) rfl (by rw [lenTab_size]; omega)) (by rw [lenTab_at])) ?_
        refine TL.gets (Wants.none rfl) rfl (Gets.conv rfl Try.underlying5 Try.underlying3 rfl (r := ((lenB y16) : Int)) (w64 rfl (by omega))) ?_
        refine TL.gets (Wants.none rfl) rfl (Gets.add rfl rfl rfl (r := (((lenB y16) : Int) + 24)) (w64 (by omega) (by omega))) ?_
        iterate 4 refine gx ?_
        exact TE.ret1 rfl rfl (fun w hs => ⟨ret_i (by omega), hs⟩)
      · iterate 6 refine gx ?_
        refine TL.gets (Wants.none rfl) rfl (Gets.conv rfl Try.underlying51 Try.underlying5 rfl (r := (y10 : Int)) (wu8 rfl (by omega))) ?_
        have hlb : lenB y10 ≤ 8 := (lenB_le (q := 8)).2 (by omega)
        refine TL.gets (Wants.none rfl) rfl (Gets.congr (Gets.indexStr (str := lenTab) rfl Try.underlying9 rfl rfl (i := y10) rfl (by rw [lenTab_size]; omega)) (by rw [lenTab_at])) ?_
        refine TL.gets (Wants.none rfl) rfl (Gets.conv rfl Try.underlying5 Try.underlying3 rfl (r := ((lenB y10) : Int)) (w64 rfl (by omega))) ?_
        refine TL.gets (Wants.none rfl) rfl (Gets.add rfl rfl rfl (r := (((lenB y10) : Int) + 16)) (w64 (by omega) (by omega))) ?_
        iterate 4 refine gx ?_
        exact TE.ret1 rfl rfl (fun w hs => ⟨ret_i (by omega), hs⟩)
    · iterate 9 refine gx ?_
      refine TC.split rfl (fun h2 => ?_) (fun h2 => ?_)
      · iterate 3 refine gx ?_
        obtain ⟨y16, hy16⟩ : ∃ y16 : Nat, y16 = x / 256 := ⟨_, rfl⟩
        have ly16 : lenB x = lenB y16 + 8 := lenB_shr (s := 8) (by omega) hy16
        refine TL.gets (Wants.none rfl) rfl (Gets.shr rfl rfl rfl (by omega) (r := (y16 : Int)) (by rw [hy16]; exact shr_nat (q := 8) (by omega))) ?_
        iterate 3 refine gx ?_
        refine TC.pr [0, 2] ?_
        iterate 2 refine gx ?_
        refine TL.gets (Wants.none rfl) rfl (Gets.add rfl rfl rfl (r := 8) (w64 (by omega) (by omega))) ?_
        iterate 7 refine gx ?_
        refine TL.gets (Wants.none rfl) rfl (Gets.conv rfl Try.underlying51 Try.underlying5 rfl (r := (y16 : Int)) (wu8 rfl (by omega))) ?_
        have hlb : lenB y16 ≤ 8 := (lenB_le (q := 8)).2 (by omega)
        refine TL.gets (Wants.none rfl) rfl (Gets.congr (Gets.indexStr (str := lenTab) rfl Try.underlying9 rfl rfl (i := y16) rfl (by rw [lenTab_size]; omega)) (by rw [lenTab_at])) ?_
        refine TL.gets (Wants.none rfl) rfl (Gets.conv rfl Try.underlying5 Try.underlying3 rfl (r := ((lenB y16) : Int)) (w64 rfl (by omega))) ?_
        refine TL.gets (Wants.none rfl) rfl (Gets.add rfl rfl rfl (r := (((lenB y16) : Int) + 8)) (w64 (by omega) (by omega))) ?_
        iterate 4 refine gx ?_
        exact TE.ret1 rfl rfl (fun w hs => ⟨ret_i (by omega), hs⟩)
      · iterate 6 refine gx ?_
        refine TL.gets (Wants.none rfl) rfl (Gets.conv rfl Try.underlying51 Try.underlying5 rfl (r := (x : Int)) (wu8 rfl (by omega))) ?_
        have hlb : lenB x ≤ 8 := (lenB_le (q := 8)).2 (by omega)
        refine TL.gets (Wants.none rfl) rfl (Gets.congr (Gets.indexStr (str := lenTab) rfl Try.underlying9 rfl rfl (i := x) rfl (by rw [lenTab_size]; omega)) (by rw [lenTab_at])) ?_
        refine TL.gets (Wants.none rfl) rfl (Gets.conv rfl Try.underlying5 Try.underlying3 rfl (r := ((lenB x) : Int)) (w64 rfl (by omega))) ?_
        refine TL.gets (Wants.none rfl) rfl (Gets.add rfl rfl rfl (r := ((lenB x) : Int)) (w64 (by omega) (by omega))) ?_
        iterate 4 refine gx ?_
        exact TE.ret1 rfl rfl (fun w hs => ⟨ret_i (by omega), hs⟩)


theorem len64_i (x : Int) (hx : 0 ≤ x ∧ x ≤ 18446744073709551615) (w : World) : Calls Try.prog 56 #[.int .u64 x] w fun e w' => e = .returned (.int .i64 (lenI x)) ∧ St w [] w' := by
  obtain ⟨y, rfl⟩ := Int.eq_ofNat_of_zero_le hx.1
  have := len64_c y (by omega) w
  unfold lenI; rw [Int.toNat_natCast]; exact this
end Go.Proofs.Ytclmgfcdnokaiaa
/-
  The code of layer 6: Append.
-/
namespace Go.Proofs.Ytclmgfcdnokaiaa
set_option linter.unusedVariables false
set_option linter.unusedSimpArgs false
open Go Go.RowKit
theorem agg51 : (isAgg 51).run Try.prog = fun w => .ok false w := isAgg_no Try.underlying51 rfl
theorem agg53 : (isAgg 53).run Try.prog = fun w => .ok true w := isAgg_yes Try.underlying53 rfl
theorem enters55 : Enters Try.prog 55 := ⟨_, Try.func55, by kernel_rfl, by kernel_rfl⟩
theorem enters56 : Enters Try.prog 56 := ⟨_, Try.func56, by kernel_rfl, by kernel_rfl⟩
theorem size51 : (Try.prog.info? 51).map (·.size) = some 1 := by kernel_rfl
theorem size53 : (Try.prog.info? 53).map (·.size) = some 2 := by kernel_rfl
theorem zero53 : (Try.prog.info? 53).bind (·.zero) = some (.agg #[.int .u64 0, .int .i64 0]) := by kernel_rfl
instance : AgN Try.prog 51 := ⟨agg51⟩
instance : Fld Try.prog 53 0 0 := ⟨⟨_, _, _, Try.underlying53, rfl, size51, rfl⟩⟩
instance : Fld Try.prog 53 1 1 := ⟨⟨_, _, _, Try.underlying53, rfl, size3, rfl⟩⟩
instance : Siz Try.prog 53 2 := ⟨size53⟩
instance : Sli Try.prog 79 53 := ⟨Try.underlying79⟩
instance : Zer Try.prog 53 [Value.int .u64 0, Value.int .i64 0] := ⟨⟨_, zero53, rfl⟩⟩
set_option maxRecDepth 100000 in
set_option maxHeartbeats 1000000 in
theorem wapp_yes (B : List Int) (Fs : List FV) (A A2 : Option Addr) (m c m2 c2 : Nat) (w : World) (hsB : Src w A m .u8 B) (hsF : SrcF w A2 m2 Fs) (hN : NumsF Fs) (hmc : m ≤ c) (hcm : c ≤ 9223372036854775807) (hmc2 : m2 ≤ c2) (hcm2 : c2 ≤ 9223372036854775807) (hm : m ≤ 1000000) (hm2 : m2 ≤ 100000) (hf : fitAll Fs) : Calls Try.prog 40 #[.slice A m c, .slice A2 m2 c2] w fun e w' => ∃ v He, e = .returned (.tuple #[v, .bool true]) ∧ Own w.heap.size 5 .u8 v (B ++ encF Fs) He ∧ St w He w' := by
  refine calls_from (args := [.slice A m c, .slice A2 m2 c2]) Try.func40 rfl Try.ntmps40 (by simp) ?_
  refine TC.pr [0, 1] ?_
  iterate 21 refine gx ?_
  refine TC.pr [0, 1, 4, 5, 6, 15, 16, 17] ?_
  refine gx ?_
  refine TC.loop (ι := Nat) (fun i => [(0, .slice A m c), (1, .slice A2 m2 c2), (15, .slice A2 m2 c2), (16, .int .i64 (m2 : Int)), (17, .int .i64 (i : Int)), (6, .int .i64 ((m : Int) + ((encF (Fs.take (i))).length : Int)))]) (fun i => []) (fun i => m2 - i) (fun i => i ≤ m2 ∧ fitAll (Fs.take (i))) 0 ⟨Nat.zero_le _, by rw [List.take_zero]; exact fitAll_nil⟩ (Sub.slice (i := 0) rfl rfl (by first | omega | (dsimp only; omega) | rfl) (by first | omega | (dsimp only; omega) | rfl) (Sub.slice (i := 1) rfl rfl (by first | omega | (dsimp only; omega) | rfl) (by first | omega | (dsimp only; omega) | rfl) (Sub.slice (i := 15) rfl rfl (by first | omega | (dsimp only; omega) | rfl) (by first | omega | (dsimp only; omega) | rfl) (Sub.int (i := 16) rfl (by first | omega | rfl) (Sub.int (i := 17) rfl (by first | omega | rfl) (Sub.int (i := 6) rfl (by rw [List.take_zero]; show (m : Int) = (m : Int) + (([] : List Int).length : Int); simp) (Sub.nil))))))) (fun w h => h) (fun i hC0 => ?_)
  obtain ⟨hi, hfi⟩ := hC0
  have hEl := encF_le hfi
  have hTl : (Fs.take i).length ≤ i := by rw [List.length_take]; omega
  iterate 6 refine gx ?_
  refine TC.split rfl (fun hq0 => ?_) (fun hq0 => ?_)
  · obtain ⟨b, off, hAe, hb, hrw⟩ := hsF.some_ (i := i) (by omega)
    subst hAe
    obtain ⟨x, hx⟩ := hsF.get (i := i) (by omega)
    have hnx := hN i x hx
    unfold NumF at hnx
    have hfx := hf x (List.mem_of_getElem? hx)
    have c1 : 1 ≤ x.n ∧ x.n ≤ 8 := by unfold fitV at hfx; exact ⟨hfx.1, hfx.2.1⟩
    iterate 6 refine gx ?_
    refine TL.gets (Wants.none rfl) rfl (Gets.idxSlice rfl Try.underlying79 size53 rfl rfl (i := i) (by omega) (by omega) (off' := (off + 2 * i)) (by omega)) ?_
    refine TL.gets (Wants.none rfl) rfl (Gets.loadN rfl agg53 size53 rfl rfl (Row.old (fun jj u h => hrw i x hx jj u h) hb ne_nil)) ?_
    refine TL.al (fun g1 hg1 => ?_)
    iterate 3 refine gx ?_
    refine TC.pr [0, 1, 6, 8, 15, 16, 17] ?_
    iterate 2 refine gx ?_
    refine TC.mix (by kernel_rfl) [0, 1, 1, 0, 0, 0, 1, 1, 0, 1, 0, 0, 0] rfl (by kernel_rfl) ?_
    iterate 2 refine gx ?_
    refine TM.call0 (Wants.none rfl) rfl enters55 rfl rfl (v := .bool true) (fun w hs => (vsize_c x.n w).mono fun e w' h => by rw [decide_eq_true (p := 1 ≤ x.n ∧ x.n ≤ 8) c1] at h; exact h) ?_
    iterate 4 refine gx ?_
    refine TM.call0 (Wants.yes rfl rfl rfl) rfl enters56 rfl rfl (v := .int .i64 (lenI x.x)) (fun w hs => len64_i x.x ⟨by omega, by omega⟩ w) ?_
    iterate 2 refine gx ?_
    refine TM.free (Wants.yes rfl rfl rfl) rfl (fun _ => Gets.mul rfl rfl rfl (r := (8 * x.n)) (w64 (by omega) (by omega))) ?_
    iterate 4 refine gx ?_
    refine TC.pr [0, 1, 6, 8, 15, 16, 17, 33] ?_
    refine TC.split rfl (fun h5 => ?_) (fun h5 => ?_)
    · exact absurd hfx ((len_fit hnx.1 c1).1 h5)
    · iterate 6 refine gx ?_
      refine TL.gets (Wants.none rfl) rfl (Gets.add rfl rfl rfl (r := ((m : Int) + ((encF (Fs.take (i))).length : Int) + x.n)) (w64 (by omega) (by omega))) ?_
      iterate 4 refine gx ?_
      refine TC.pr [0, 1, 6, 15, 16, 17] ?_
      refine gx ?_
      refine TL.gets (Wants.none rfl) rfl (Gets.add rfl rfl rfl (r := ((i : Int) + 1)) (w64 (by omega) (by omega))) ?_
      iterate 2 refine gx ?_
      have hE : ((encF (Fs.take (i + 1))).length : Int) = ((encF (Fs.take i)).length : Int) + x.n := by rw [encF_take hx, List.length_append, beV_len]; omega
      exact TE.back (i + 1) (by omega) ⟨by omega, (fitAll_take hx).2 ⟨hfi, hfx⟩⟩ (Sub.slice (i := 0) rfl rfl (by first | omega | (dsimp only; omega) | rfl) (by first | omega | (dsimp only; omega) | rfl) (Sub.slice (i := 1) rfl (by first | rfl | (congr 2; omega)) (by first | omega | (dsimp only; omega) | rfl) (by first | omega | (dsimp only; omega) | rfl) (Sub.slice (i := 15) rfl (by first | rfl | (congr 2; omega)) (by first | omega | (dsimp only; omega) | rfl) (by first | omega | (dsimp only; omega) | rfl) (Sub.int (i := 16) rfl (by first | omega | rfl) (Sub.int (i := 17) rfl (by first | omega | rfl) (Sub.int (i := 6) rfl (by rw [hE]; omega) (Sub.nil))))))) (fun w h => h.drop (by assumption))
  · obtain rfl : m2 = i := by omega
    have htk : Fs.take m2 = Fs := List.take_of_length_le (by have := hsF.1; omega)
    rw [htk] at hfi hEl hTl ⊢
    iterate 8 refine gx ?_
    refine TL.makeSlice1 (Wants.none rfl) rfl rfl Try.underlying28 mk5 rfl rfl rfl (ln := 0) (cp := (m + ((encF Fs).length))) rfl (by omega) (by omega) (by omega) (by omega) (fun g2 hg2 => ?_)
    rw [show List.replicate (m + ((encF Fs).length)) (.int .u8 0) = (List.replicate (m + ((encF Fs).length)) 0).map (Value.int .u8) from (List.map_replicate ..).symm]
    refine gx ?_
    refine TL.heap (H' := [] ++ [⟨g2, 5, ([] : List Int).map (Value.int .u8), (m + ((encF Fs).length))⟩]) (fun w h => St.blank h) ?_
    refine TL.appendOwn (H := []) (He := [⟨g2, 5, ([] : List Int).map (Value.int .u8), (m + ((encF Fs).length))⟩]) (Wants.none rfl) rfl rfl Try.underlying28 mk5 rfl rfl rfl (W := []) (B := B) (.inr ⟨g2, (m + ((encF Fs).length)), rfl, rfl, hg2, Nat.zero_le _, by unfold maxLen; omega⟩) (fun w hs => hsB.at_ hs (fun b hb => ne_app ne_nil (ne_cons (by show g2 ≠ b; omega) ne_nil))) (by simp only [List.length_nil]; omega) (by simp only [List.length_nil]; omega) (fun vo Ho ho hne => ?_)
    rw [List.nil_append] at ho
    iterate 3 refine gx ?_
    refine TC.pr [1, 9] ?_
    iterate 9 refine gx ?_
    refine TC.loop (ι := WN) (fun x0 => [(1, .slice A2 m2 c2), (43, .slice A2 m2 c2), (44, .int .i64 (m2 : Int)), (45, .int .i64 (x0.k : Int)), (9, x0.v)]) (fun x0 => [] ++ x0.He) (fun x0 => m2 - x0.k) (fun x0 => Own w.heap.size 5 .u8 x0.v (B ++ encF (Fs.take x0.k)) x0.He ∧ x0.k ≤ m2) (⟨0, vo, Ho⟩ : WN) ⟨by show Own _ _ _ vo (B ++ encF (Fs.take 0)) Ho; rw [List.take_zero]; show Own _ _ _ vo (B ++ []) Ho; rw [List.append_nil]; exact ho, Nat.zero_le _⟩ (Sub.slice (i := 1) rfl rfl (by first | omega | (dsimp only; omega) | rfl) (by first | omega | (dsimp only; omega) | rfl) (Sub.slice (i := 43) rfl rfl (by first | omega | (dsimp only; omega) | rfl) (by first | omega | (dsimp only; omega) | rfl) (Sub.int (i := 44) rfl (by first | omega | rfl) (Sub.int (i := 45) rfl (by first | omega | rfl) (Sub.cons (i := 9) rfl (Sub.nil)))))) (fun w h => h) (fun x0 hC1 => ?_)
    obtain ⟨i, v, He⟩ := x0
    obtain ⟨hown0, hi2⟩ := hC1
    dsimp only at hown0 hi2 ⊢
    have hown := hown0
    have hEi : (encF (Fs.take i)).length ≤ 8 * m2 := by have h1 := encF_le (Fs := Fs.take i) (fun f h => hf f (List.mem_of_mem_take h)); rw [List.length_take] at h1; omega
    iterate 6 refine gx ?_
    refine TC.split rfl (fun hq2 => ?_) (fun hq2 => ?_)
    · obtain ⟨b, off, hAe, hb, hrw⟩ := hsF.some_ (i := i) (by omega)
      subst hAe
      obtain ⟨x, hx⟩ := hsF.get (i := i) (by omega)
      have hnx := hN i x hx
      unfold NumF at hnx
      have hfx := hf x (List.mem_of_getElem? hx)
      have c1 : 1 ≤ x.n ∧ x.n ≤ 8 := by unfold fitV at hfx; exact ⟨hfx.1, hfx.2.1⟩
      iterate 6 refine gx ?_
      refine TL.gets (Wants.none rfl) rfl (Gets.idxSlice rfl Try.underlying79 size53 rfl rfl (i := i) (by omega) (by omega) (off' := (off + 2 * i)) (by omega)) ?_
      refine TL.gets (Wants.none rfl) rfl (Gets.loadN rfl agg53 size53 rfl rfl (Row.old (fun jj u h => hrw i x hx jj u h) hb (ne_app ne_nil (hown.ne hb)))) ?_
      refine TL.al (fun g3 hg3 => ?_)
      refine TL.storeW (Wants.none rfl) rfl rfl size53 rfl (vs := [Value.int .u64 x.x, Value.int .i64 x.n]) rfl (by simp []) (by simp [Value.oneCell']) (i := 0) (ent := ⟨g3, 53, [Value.int .u64 0, Value.int .i64 0], 2⟩) rfl rfl (by simp []) (H' := [⟨g3, 53, [Value.int .u64 x.x, Value.int .i64 x.n], 2⟩] ++ He) rfl ?_
      iterate 2 refine gx ?_
      refine TC.pr [1, 9, 11, 43, 44, 45] ?_
      iterate 4 refine gx ?_
      refine TL.gets (Wants.none rfl) rfl (Gets.sub rfl rfl rfl (r := (x.n - 1)) (w64 (by omega) (by omega))) ?_
      refine TL.gets (Wants.none rfl) rfl (Gets.mul rfl rfl rfl (r := (8 * x.n - 8)) (w64 (by omega) (by omega))) ?_
      iterate 3 refine gx ?_
      refine TC.pr [1, 9, 11, 12, 43, 44, 45] ?_
      refine gx ?_
      refine TC.loop (ι := WN) (fun x1 => [(1, .slice (some ⟨b, off, none⟩) m2 c2), (43, .slice (some ⟨b, off, none⟩) m2 c2), (44, .int .i64 (m2 : Int)), (45, .int .i64 (i : Int)), (11, .pointer (some ⟨g3, 0, none⟩)), (9, x1.v), (12, .int .i64 (8 * x.n - 8 * (x1.k : Int) - 8))]) (fun x1 => [⟨g3, 53, [Value.int .u64 x.x, Value.int .i64 x.n], 2⟩] ++ x1.He) (fun x1 => x.n.toNat - x1.k) (fun x1 => Own w.heap.size 5 .u8 x1.v (B ++ encF (Fs.take i) ++ beP x.x x.n x1.k) x1.He ∧ x1.k ≤ x.n.toNat) (⟨0, v, He⟩ : WN) ⟨by show Own _ _ _ v (B ++ encF (Fs.take i) ++ beP x.x x.n 0) He; rw [beP_zero, List.append_nil]; exact hown0, by show 0 ≤ x.n.toNat; omega⟩ (Sub.slice (i := 1) rfl rfl (by first | omega | (dsimp only; omega) | rfl) (by first | omega | (dsimp only; omega) | rfl) (Sub.slice (i := 43) rfl rfl (by first | omega | (dsimp only; omega) | rfl) (by first | omega | (dsimp only; omega) | rfl) (Sub.int (i := 44) rfl (by first | omega | rfl) (Sub.int (i := 45) rfl (by first | omega | rfl) (Sub.cons (i := 11) rfl (Sub.cons (i := 9) rfl (Sub.int (i := 12) rfl (by show 8 * x.n - 8 = 8 * x.n - 8 * ((0 : Nat) : Int) - 8; omega) (Sub.nil)))))))) (fun w h => h) (fun x1 hC2 => ?_)
      obtain ⟨k, v1, H1⟩ := x1
      obtain ⟨hown, hk⟩ := hC2
      dsimp only at hown hk ⊢
      iterate 7 refine gx ?_
      refine TC.pr [1, 9, 11, 12, 43, 44, 45, 54] ?_
      refine TC.split rfl (fun hq3 => ?_) (fun hq3 => ?_)
      · iterate 9 refine gx ?_
        refine TL.gets (Wants.none rfl) rfl (Gets.shr rfl rfl rfl (by omega) (r := (shrI .u64 x.x (8 * x.n - 8 * (k : Int) - 8))) rfl) ?_
        refine TL.gets (Wants.none rfl) rfl (Gets.conv rfl Try.underlying51 Try.underlying5 rfl (r := (IntKind.u8.wrap (shrI .u64 x.x (8 * x.n - 8 * (k : Int) - 8)))) rfl) ?_
        refine TL.buildSlice (Wants.none rfl) rfl rfl Try.underlying28 size5 zero5 rfl (by decide) (by decide) (cells := #[.int .u8 (IntKind.u8.wrap (shrI .u64 x.x (8 * x.n - 8 * (k : Int) - 8)))]) (tot := 1) (by kernel_rfl) (cs := [.int .u8 (IntKind.u8.wrap (shrI .u64 x.x (8 * x.n - 8 * (k : Int) - 8)))]) rfl rfl (fun g4 hg4 => ?_)
        refine TL.appendOwn (H := [⟨g4, 5, [Value.int .u8 (IntKind.u8.wrap (shrI .u64 x.x (8 * x.n - 8 * (k : Int) - 8)))], 1⟩, ⟨g3, 53, [Value.int .u64 x.x, Value.int .i64 x.n], 2⟩]) (sl := 1) (t := 28) (e := 5) (kd := .u8) (Wants.none rfl) rfl rfl Try.underlying28 mk5 rfl rfl rfl (W := B ++ encF (Fs.take i) ++ beP x.x x.n k) (B := [(IntKind.u8.wrap (shrI .u64 x.x (8 * x.n - 8 * (k : Int) - 8)))]) hown (fun w hs => src_ent (W := [(IntKind.u8.wrap (shrI .u64 x.x (8 * x.n - 8 * (k : Int) - 8)))]) (hs.has ⟨g4, 5, [Value.int .u8 (IntKind.u8.wrap (shrI .u64 x.x (8 * x.n - 8 * (k : Int) - 8)))], 1⟩ (by simp)) rfl) (by have := beP_len x.x x.n k; have hap : (B ++ encF (Fs.take i) ++ beP x.x x.n k).length = B.length + (encF (Fs.take i)).length + (beP x.x x.n k).length := (by rw [List.length_append, List.length_append]); have hBl := hsB.1; omega) (by have := beP_len x.x x.n k; have hap : (B ++ encF (Fs.take i) ++ beP x.x x.n k).length = B.length + (encF (Fs.take i)).length + (beP x.x x.n k).length := (by rw [List.length_append, List.length_append]); have hBl := hsB.1; omega) (fun vo Ho ho hne => ?_)
        iterate 4 refine gx ?_
        refine TC.pr [1, 9, 11, 12, 43, 44, 45] ?_
        iterate 2 refine gx ?_
        refine TL.gets (Wants.none rfl) rfl (Gets.sub rfl rfl rfl (r := (8 * x.n - 8 * (k : Int) - 16)) (w64 (by omega) (by omega))) ?_
        iterate 2 refine gx ?_
        exact TE.back (⟨k + 1, vo, Ho⟩ : WN) (by show x.n.toNat - (k + 1) < x.n.toNat - k; omega) ⟨by show Own _ _ _ vo (B ++ encF (Fs.take i) ++ beP x.x x.n (k + 1)) Ho; rw [beP_succ, ← List.append_assoc]; exact ho, by show k + 1 ≤ x.n.toNat; omega⟩ (Sub.slice (i := 1) rfl rfl (by first | omega | (dsimp only; omega) | rfl) (by first | omega | (dsimp only; omega) | rfl) (Sub.slice (i := 43) rfl rfl (by first | omega | (dsimp only; omega) | rfl) (by first | omega | (dsimp only; omega) | rfl) (Sub.int (i := 44) rfl (by first | omega | rfl) (Sub.int (i := 45) rfl (by first | omega | rfl) (Sub.cons (i := 11) rfl (Sub.cons (i := 9) rfl (Sub.int (i := 12) rfl (by show 8 * x.n - 8 * (k : Int) - 16 = 8 * x.n - 8 * ((k + 1 : Nat) : Int) - 8; omega) (Sub.nil)))))))) (fun w h => h.drop (by assumption))
      · have hkn : k = x.n.toNat := by omega
        iterate 7 refine gx ?_
        refine TL.gets (Wants.none rfl) rfl (Gets.add rfl rfl rfl (r := ((i : Int) + 1)) (w64 (by omega) (by omega))) ?_
        iterate 2 refine gx ?_
        exact TE.back (⟨i + 1, v1, H1⟩ : WN) (by show m2 - (i + 1) < m2 - i; omega) ⟨by show Own _ _ _ v1 (B ++ encF (Fs.take (i + 1))) H1; rw [encF_take hx, ← List.append_assoc, show beV x.x x.n = beP x.x x.n x.n.toNat from rfl, ← hkn]; exact hown, by show i + 1 ≤ m2; omega⟩ (Sub.slice (i := 1) rfl (by first | rfl | (congr 2; omega)) (by first | omega | (dsimp only; omega) | rfl) (by first | omega | (dsimp only; omega) | rfl) (Sub.slice (i := 43) rfl (by first | rfl | (congr 2; omega)) (by first | omega | (dsimp only; omega) | rfl) (by first | omega | (dsimp only; omega) | rfl) (Sub.int (i := 44) rfl (by first | omega | rfl) (Sub.int (i := 45) rfl (by first | omega | rfl) (Sub.cons (i := 9) rfl (Sub.nil)))))) (fun w h => h.drop (by assumption))
    · obtain rfl : m2 = i := by omega
      have htk : Fs.take m2 = Fs := List.take_of_length_le (by have := hsF.1; omega)
      rw [htk] at hown
      iterate 13 refine gx ?_
      exact TE.ret2 rfl rfl rfl (fun w hs => ⟨v, He, rfl, hown, hs⟩)
end Go.Proofs.Ytclmgfcdnokaiaa
/-
  The reader of layer 6: its position, its fault.
-/
namespace Go.Proofs.Ytclmgfcdnokaiaa
set_option linter.unusedVariables false
set_option linter.unusedSimpArgs false
open Go Go.RowKit
theorem agg29 : (isAgg 29).run Try.prog = fun w => .ok false w := isAgg_no Try.underlying29 rfl
theorem agg36 : (isAgg 36).run Try.prog = fun w => .ok true w := isAgg_yes Try.underlying36 rfl
theorem enters28 : Enters Try.prog 28 := ⟨_, Try.func28, by kernel_rfl, by kernel_rfl⟩
theorem enters57 : Enters Try.prog 57 := ⟨_, Try.func57, by kernel_rfl, by kernel_rfl⟩
theorem enters58 : Enters Try.prog 58 := ⟨_, Try.func58, by kernel_rfl, by kernel_rfl⟩
theorem size36 : (Try.prog.info? 36).map (·.size) = some 2 := by kernel_rfl
theorem size85 : (Try.prog.info? 85).map (·.size) = some 2 := by kernel_rfl
theorem zero36 : (Try.prog.info? 36).bind (·.zero) = some (.agg #[.int .i64 0, .int .i64 0]) := by kernel_rfl
instance : Fld Try.prog 85 0 0 := ⟨⟨_, _, _, Try.underlying85, rfl, size28, rfl⟩⟩
instance : Fld Try.prog 85 1 1 := ⟨⟨_, _, _, Try.underlying85, rfl, size3, rfl⟩⟩
instance : Fld Try.prog 87 0 0 := ⟨⟨_, _, _, Try.underlying87, rfl, size85, rfl⟩⟩
instance : Fld Try.prog 87 1 2 := ⟨⟨_, _, _, Try.underlying87, rfl, size36, rfl⟩⟩
instance : Siz Try.prog 36 2 := ⟨size36⟩
instance : Zer Try.prog 36 [Value.int .i64 0, Value.int .i64 0] := ⟨⟨_, zero36, rfl⟩⟩
set_option maxRecDepth 100000 in
set_option maxHeartbeats 400000 in
theorem left_c (g : Nat) (A : Option Addr) (m c k : Nat) (co po : Int) (w : World) (hl : Ent.lies ⟨g, 87, rdC A m c k co po, rdN⟩ w) (hk : k ≤ m) (hmc : m ≤ c) (hcm : c ≤ 9223372036854775807)  : Calls Try.prog 58 #[.pointer (some ⟨g, 0, none⟩)] w fun e w' => e = .returned (.slice (cutA A c k 1) (m - k) (c - k)) ∧ St w [] w' := by
  refine calls_from (args := [.pointer (some ⟨g, 0, none⟩)]) Try.func58 rfl Try.ntmps58 (by simp) ?_
  refine TC.pr [0] ?_
  refine TC.heap (H' := [⟨g, 87, [Value.slice A m c, Value.int .i64 (k : Int), Value.int .i64 co, Value.int .i64 po], 4⟩]) (fun w hs => hs.take hl ne_nil) ?_
  iterate 6 refine gx ?_
  refine TC.mix (by kernel_rfl) [0, 0, 0, 1, 0, 0, 0, 1, 0, 0] rfl (by kernel_rfl) ?_
  refine gx ?_
  refine TM.free (Wants.none rfl) rfl (fun _ => Gets.nilCheck rfl rfl) ?_
  iterate 3 refine gx ?_
  refine TM.free (Wants.none rfl) rfl (fun _ => Gets.nilCheck rfl rfl) ?_
  iterate 2 refine gx ?_
  refine TM.free (Wants.none rfl) rfl (fun _ => Gets.sliceS rfl Try.underlying28 size5 rfl (bnd.at_ (l := k) rfl (by omega)) bnd.dflt (by omega) (by omega) rfl (ln := (m - k)) (cp := (c - k)) (by omega) (by omega)) ?_
  iterate 4 refine gx ?_
  exact TE.ret1 rfl rfl (fun w hs => ⟨rfl, (hs.same hl rfl)⟩)

set_option maxRecDepth 100000 in
set_option maxHeartbeats 400000 in
theorem end_c (g : Nat) (A : Option Addr) (m c k : Nat) (co po : Int) (w : World) (hl : Ent.lies ⟨g, 87, rdC A m c k co po, rdN⟩ w) (hk : k ≤ m) (hmc : m ≤ c) (hcm : c ≤ 9223372036854775807)  : Calls Try.prog 61 #[.pointer (some ⟨g, 0, none⟩)] w fun e w' => e = .returned (.int .i64 (m : Int)) ∧ St w [] w' := by
  refine calls_from (args := [.pointer (some ⟨g, 0, none⟩)]) Try.func61 rfl Try.ntmps61 (by simp) ?_
  refine TC.pr [0] ?_
  refine TC.heap (H' := [⟨g, 87, [Value.slice A m c, Value.int .i64 (k : Int), Value.int .i64 co, Value.int .i64 po], 4⟩]) (fun w hs => hs.take hl ne_nil) ?_
  iterate 8 refine gx ?_
  refine TL.gets (Wants.none rfl) rfl (Gets.nilCheck rfl rfl) ?_
  iterate 7 refine gx ?_
  exact TE.ret1 rfl rfl (fun w hs => ⟨rfl, (hs.same hl rfl)⟩)

set_option maxRecDepth 100000 in
set_option maxHeartbeats 400000 in
theorem pass_c (g : Nat) (A : Option Addr) (m c k : Nat) (n : Nat) (hn : k + n ≤ m) (co po : Int) (w : World) (hl : Ent.lies ⟨g, 87, rdC A m c k co po, rdN⟩ w) (hk : k ≤ m) (hmc : m ≤ c) (hcm : c ≤ 9223372036854775807)  : Calls Try.prog 60 #[.pointer (some ⟨g, 0, none⟩), .int .i64 (n : Int)] w fun e w' => e = .returned (.slice (cutA A c k 1) n (c - k)) ∧ St w [⟨g, 87, rdC A m c (k + n) co po, rdN⟩] w' := by
  refine calls_from (args := [.pointer (some ⟨g, 0, none⟩), .int .i64 (n : Int)]) Try.func60 rfl Try.ntmps60 (by simp) ?_
  refine TC.pr [0, 1] ?_
  refine TC.heap (H' := [⟨g, 87, [Value.slice A m c, Value.int .i64 (k : Int), Value.int .i64 co, Value.int .i64 po], 4⟩]) (fun w hs => hs.take hl ne_nil) ?_
  iterate 8 refine gx ?_
  refine TL.call0 (Wants.none rfl) rfl enters58 rfl rfl (v := .slice (cutA A c k 1) (m - k) (c - k)) (fun w hs => left_c g A m c k co po w (hs.has (⟨g, 87, [Value.slice A m c, Value.int .i64 (k : Int), Value.int .i64 co, Value.int .i64 po], 4⟩) (by simp)) (by omega) (by omega) (by omega)) ?_
  refine gx ?_
  refine TL.gets (Wants.none rfl) rfl (Gets.sliceS rfl Try.underlying28 size5 rfl bnd.dflt (bnd.at_ (l := n) rfl (by omega)) (by omega) (by omega) (cutA_zero _ _ _) (ln := n) (cp := (c - k)) (by omega) (by omega)) ?_
  iterate 6 refine gx ?_
  refine TL.gets (Wants.none rfl) rfl (Gets.nilCheck rfl rfl) ?_
  iterate 3 refine gx ?_
  refine TL.gets (Wants.none rfl) rfl (Gets.add rfl rfl rfl (r := ((k : Int) + (n : Int))) (w64 (by omega) (by omega))) ?_
  refine TL.gets (Wants.none rfl) rfl (Gets.nilCheck rfl rfl) ?_
  refine gx ?_
  refine TL.store1 (Wants.none rfl) rfl rfl size3 rfl rfl rfl (i := 0) rfl rfl (by simp [] <;> omega) (cs' := [Value.slice A m c, Value.int .i64 ((k : Int) + (n : Int)), Value.int .i64 co, Value.int .i64 po]) (rfl) (H' := [⟨g, 87, [Value.slice A m c, Value.int .i64 ((k : Int) + (n : Int)), Value.int .i64 co, Value.int .i64 po], 4⟩]) rfl ?_
  iterate 2 refine gx ?_
  refine TC.pr [4, 5] ?_
  iterate 7 refine gx ?_
  exact TE.ret1 rfl rfl (fun w hs => ⟨rfl, hs⟩)

set_option maxRecDepth 100000 in
set_option maxHeartbeats 400000 in
theorem fault_c (g : Nat) (A : Option Addr) (m c k : Nat) (co po : Int) (w : World) (hl : Ent.lies ⟨g, 87, rdC A m c k co po, rdN⟩ w)  : Calls Try.prog 28 #[.pointer (some ⟨g, 0, none⟩)] w fun e w' => e = .returned (.agg ([Value.int .i64 co, Value.int .i64 po]).toArray) ∧ St w [] w' := by
  refine calls_from (args := [.pointer (some ⟨g, 0, none⟩)]) Try.func28 rfl Try.ntmps28 (by simp) ?_
  refine TC.pr [0] ?_
  refine TC.heap (H' := [⟨g, 87, [Value.slice A m c, Value.int .i64 (k : Int), Value.int .i64 co, Value.int .i64 po], 4⟩]) (fun w hs => hs.take hl ne_nil) ?_
  iterate 2 refine gx ?_
  refine TL.al (fun g1 hg1 => ?_)
  iterate 6 refine gx ?_
  refine TL.gets (Wants.none rfl) rfl (Gets.ptrNil rfl Try.underlying59 rfl rfl) ?_
  iterate 2 refine gx ?_
  refine TC.no rfl ?_
  iterate 5 refine gx ?_
  refine TL.gets (Wants.none rfl) rfl (Gets.nilCheck rfl rfl) ?_
  refine gx ?_
  refine TL.gets (Wants.none rfl) rfl (Gets.loadN rfl agg36 size36 rfl (vs := [Value.int .i64 co, Value.int .i64 po]) rfl (Row.part (i := 1) (ent := ⟨g, 87, [Value.slice A m c, Value.int .i64 (k : Int), Value.int .i64 co, Value.int .i64 po], 4⟩) rfl rfl rfl)) ?_
  iterate 4 refine gx ?_
  exact TE.retC rfl agg36 size36 rfl (vs := [Value.int .i64 co, Value.int .i64 po]) rfl (Row.all (i := 0) (ent := ⟨g1, 36, [Value.int .i64 co, Value.int .i64 po], 2⟩) rfl rfl rfl) (fun w hs => ⟨rfl, ((hs.drop (by assumption)).same hl rfl)⟩)

set_option maxRecDepth 100000 in
set_option maxHeartbeats 400000 in
theorem fault_nil (w : World) : Calls Try.prog 28 #[.pointer none] w fun e w' => e = .returned (.agg ([Value.int .i64 1, Value.int .i64 0]).toArray) ∧ St w [] w' := by
  refine calls_from (args := [.pointer none]) Try.func28 rfl Try.ntmps28 (by simp) ?_
  refine TC.pr [0] ?_
  iterate 2 refine gx ?_
  refine TL.al (fun g1 hg1 => ?_)
  iterate 6 refine gx ?_
  refine TL.gets (Wants.none rfl) rfl (Gets.nilNil rfl Try.underlying59 rfl rfl) ?_
  iterate 2 refine gx ?_
  refine TC.yes rfl ?_
  iterate 2 refine gx ?_
  refine TL.gets (Wants.none rfl) rfl (Gets.build rfl (vs := [(0, Value.int .i64 1)]) rfl (fun w => by first | rfl | kernel_rfl) (v := .agg ([Value.int .i64 1, Value.int .i64 0]).toArray)) ?_
  iterate 5 refine gx ?_
  exact TE.retC rfl agg36 size36 rfl (vs := [Value.int .i64 1, Value.int .i64 0]) rfl (Row.all (i := 0) (ent := ⟨g1, 36, [Value.int .i64 1, Value.int .i64 0], 2⟩) rfl rfl rfl) (fun w hs => ⟨rfl, (hs.drop (by assumption))⟩)

set_option maxRecDepth 100000 in
set_option maxHeartbeats 400000 in
theorem ready_c (g : Nat) (A : Option Addr) (m c k : Nat) (co po : Int) (w : World) (hl : Ent.lies ⟨g, 87, rdC A m c k co po, rdN⟩ w)  : Calls Try.prog 57 #[.pointer (some ⟨g, 0, none⟩)] w fun e w' => e = .returned (.bool (decide (co = 0))) ∧ St w [] w' := by
  refine calls_from (args := [.pointer (some ⟨g, 0, none⟩)]) Try.func57 rfl Try.ntmps57 (by simp) ?_
  refine TC.pr [0] ?_
  refine TC.heap (H' := [⟨g, 87, [Value.slice A m c, Value.int .i64 (k : Int), Value.int .i64 co, Value.int .i64 po], 4⟩]) (fun w hs => hs.take hl ne_nil) ?_
  iterate 8 refine gx ?_
  refine TL.call0 (Wants.none rfl) rfl enters28 rfl rfl (v := .agg ([Value.int .i64 co, Value.int .i64 po]).toArray) (fun w hs => fault_c g A m c k co po w (hs.has (⟨g, 87, [Value.slice A m c, Value.int .i64 (k : Int), Value.int .i64 co, Value.int .i64 po], 4⟩) (by simp))) ?_
  refine TL.gets (Wants.none rfl) rfl (Gets.field1 rfl Try.underlying36 rfl rfl agg29 rfl) ?_
  iterate 5 refine gx ?_
  exact TE.ret1 rfl rfl (fun w hs => ⟨rfl, (hs.same hl rfl)⟩)

set_option maxRecDepth 100000 in
set_option maxHeartbeats 400000 in
theorem ready_nil (w : World) : Calls Try.prog 57 #[.pointer none] w fun e w' => e = .returned (.bool false) ∧ St w [] w' := by
  refine calls_from (args := [.pointer none]) Try.func57 rfl Try.ntmps57 (by simp) ?_
  refine TC.pr [0] ?_
  iterate 8 refine gx ?_
  refine TL.call0 (Wants.none rfl) rfl enters28 rfl rfl (v := .agg ([Value.int .i64 1, Value.int .i64 0]).toArray) (fun w hs => fault_nil w) ?_
  refine TL.gets (Wants.none rfl) rfl (Gets.field1 rfl Try.underlying36 rfl rfl agg29 rfl) ?_
  refine TL.gets (Wants.none rfl) rfl (Gets.isFalse (Gets.eql rfl rfl rfl) (by decide)) ?_
  iterate 4 refine gx ?_
  exact TE.ret1 rfl rfl (fun w hs => ⟨rfl, hs⟩)

set_option maxRecDepth 100000 in
set_option maxHeartbeats 400000 in
theorem at_c (g : Nat) (A : Option Addr) (m c k : Nat) (co po : Int) (w : World) (hl : Ent.lies ⟨g, 87, rdC A m c k co po, rdN⟩ w)  : Calls Try.prog 50 #[.pointer (some ⟨g, 0, none⟩)] w fun e w' => e = .returned (.int .i64 (k : Int)) ∧ St w [] w' := by
  refine calls_from (args := [.pointer (some ⟨g, 0, none⟩)]) Try.func50 rfl Try.ntmps50 (by simp) ?_
  refine TC.pr [0] ?_
  refine TC.heap (H' := [⟨g, 87, [Value.slice A m c, Value.int .i64 (k : Int), Value.int .i64 co, Value.int .i64 po], 4⟩]) (fun w hs => hs.take hl ne_nil) ?_
  iterate 9 refine gx ?_
  refine TL.gets (Wants.none rfl) rfl (Gets.ptrNil rfl Try.underlying59 rfl rfl) ?_
  iterate 2 refine gx ?_
  refine TC.no rfl ?_
  iterate 5 refine gx ?_
  refine TL.gets (Wants.none rfl) rfl (Gets.nilCheck rfl rfl) ?_
  iterate 7 refine gx ?_
  exact TE.ret1 rfl rfl (fun w hs => ⟨rfl, (hs.same hl rfl)⟩)

set_option maxRecDepth 100000 in
set_option maxHeartbeats 400000 in
theorem at_nil (w : World) : Calls Try.prog 50 #[.pointer none] w fun e w' => e = .returned (.int .i64 0) ∧ St w [] w' := by
  refine calls_from (args := [.pointer none]) Try.func50 rfl Try.ntmps50 (by simp) ?_
  refine TC.pr [0] ?_
  iterate 9 refine gx ?_
  refine TL.gets (Wants.none rfl) rfl (Gets.nilNil rfl Try.underlying59 rfl rfl) ?_
  iterate 2 refine gx ?_
  refine TC.yes rfl ?_
  iterate 7 refine gx ?_
  exact TE.ret1 rfl rfl (fun w hs => ⟨rfl, hs⟩)

set_option maxRecDepth 100000 in
set_option maxHeartbeats 400000 in
theorem rest_c (g : Nat) (A : Option Addr) (m c k : Nat) (co po : Int) (w : World) (hl : Ent.lies ⟨g, 87, rdC A m c k co po, rdN⟩ w) (hk : k ≤ m) (hmc : m ≤ c) (hcm : c ≤ 9223372036854775807)  : Calls Try.prog 48 #[.pointer (some ⟨g, 0, none⟩)] w fun e w' => e = .returned (.int .i64 ((m : Int) - (k : Int))) ∧ St w [] w' := by
  refine calls_from (args := [.pointer (some ⟨g, 0, none⟩)]) Try.func48 rfl Try.ntmps48 (by simp) ?_
  refine TC.pr [0] ?_
  refine TC.heap (H' := [⟨g, 87, [Value.slice A m c, Value.int .i64 (k : Int), Value.int .i64 co, Value.int .i64 po], 4⟩]) (fun w hs => hs.take hl ne_nil) ?_
  iterate 9 refine gx ?_
  refine TL.gets (Wants.none rfl) rfl (Gets.ptrNil rfl Try.underlying59 rfl rfl) ?_
  iterate 2 refine gx ?_
  refine TC.no rfl ?_
  iterate 5 refine gx ?_
  refine TL.gets (Wants.none rfl) rfl (Gets.nilCheck rfl rfl) ?_
  refine gx ?_
  refine TL.call0 (Wants.none rfl) rfl enters58 rfl rfl (v := .slice (cutA A c k 1) (m - k) (c - k)) (fun w hs => left_c g A m c k co po w (hs.has (⟨g, 87, [Value.slice A m c, Value.int .i64 (k : Int), Value.int .i64 co, Value.int .i64 po], 4⟩) (by simp)) (by omega) (by omega) (by omega)) ?_
  iterate 5 refine gx ?_
  exact TE.ret1 rfl rfl (fun w hs => ⟨ret_i (by omega), (hs.same hl rfl)⟩)

set_option maxRecDepth 100000 in
set_option maxHeartbeats 400000 in
theorem fail_set (g : Nat) (A : Option Addr) (m c k : Nat) (po d n : Int) (hd : d ≠ 0) (w : World) (hl : Ent.lies ⟨g, 87, rdC A m c k 0 po, rdN⟩ w)  : Calls Try.prog 49 #[.pointer (some ⟨g, 0, none⟩), .int .i64 d, .int .i64 n] w fun e w' => e = .returned (.tuple #[]) ∧ St w [⟨g, 87, rdC A m c k d n, rdN⟩] w' := by
  refine calls_from (args := [.pointer (some ⟨g, 0, none⟩), .int .i64 d, .int .i64 n]) Try.func49 rfl Try.ntmps49 (by simp) ?_
  refine TC.pr [0, 1, 2] ?_
  refine TC.heap (H' := [⟨g, 87, [Value.slice A m c, Value.int .i64 (k : Int), Value.int .i64 0, Value.int .i64 po], 4⟩]) (fun w hs => hs.take hl ne_nil) ?_
  iterate 3 refine gx ?_
  refine TL.call0 (Wants.none rfl) rfl enters57 rfl rfl (v := .bool true) (fun w hs => calls_yes rfl (ready_c g A m c k 0 po w (hs.has (⟨g, 87, [Value.slice A m c, Value.int .i64 (k : Int), Value.int .i64 0, Value.int .i64 po], 4⟩) (by simp)))) ?_
  iterate 2 refine gx ?_
  refine TL.gets (Wants.yes rfl rfl rfl) rfl (Gets.isTrue (Gets.neq rfl rfl rfl) hd) ?_
  iterate 3 refine gx ?_
  refine TC.pr [0, 1, 2, 11] ?_
  refine TC.yes rfl ?_
  iterate 4 refine gx ?_
  refine TL.gets (Wants.none rfl) rfl (Gets.build rfl (vs := [(0, Value.int .i64 d), (1, Value.int .i64 n)]) rfl (fun w => by first | rfl | kernel_rfl) (v := .agg ([Value.int .i64 d, Value.int .i64 n]).toArray)) ?_
  refine TL.gets (Wants.none rfl) rfl (Gets.nilCheck rfl rfl) ?_
  refine gx ?_
  refine TL.storeN (Wants.none rfl) rfl rfl size36 rfl (vs := [Value.int .i64 d, Value.int .i64 n]) rfl rfl (by simp [Value.oneCell']) (i := 0) (ent := ⟨g, 87, [Value.slice A m c, Value.int .i64 (k : Int), Value.int .i64 0, Value.int .i64 po], 4⟩) rfl rfl (by simp) (cs' := [Value.slice A m c, Value.int .i64 (k : Int), Value.int .i64 d, Value.int .i64 n]) rfl (H' := [⟨g, 87, [Value.slice A m c, Value.int .i64 (k : Int), Value.int .i64 d, Value.int .i64 n], 4⟩]) rfl ?_
  refine gx ?_
  exact TE.end0 rfl (fun w hs => ⟨rfl, hs⟩)

set_option maxRecDepth 100000 in
set_option maxHeartbeats 400000 in
theorem fail_dead (g : Nat) (A : Option Addr) (m c k : Nat) (co po d n : Int) (hco : co ≠ 0) (w : World) (hl : Ent.lies ⟨g, 87, rdC A m c k co po, rdN⟩ w)  : Calls Try.prog 49 #[.pointer (some ⟨g, 0, none⟩), .int .i64 d, .int .i64 n] w fun e w' => e = .returned (.tuple #[]) ∧ St w [] w' := by
  refine calls_from (args := [.pointer (some ⟨g, 0, none⟩), .int .i64 d, .int .i64 n]) Try.func49 rfl Try.ntmps49 (by simp) ?_
  refine TC.pr [0, 1, 2] ?_
  refine TC.heap (H' := [⟨g, 87, [Value.slice A m c, Value.int .i64 (k : Int), Value.int .i64 co, Value.int .i64 po], 4⟩]) (fun w hs => hs.take hl ne_nil) ?_
  iterate 3 refine gx ?_
  refine TL.call0 (Wants.none rfl) rfl enters57 rfl rfl (v := .bool false) (fun w hs => calls_no hco (ready_c g A m c k co po w (hs.has (⟨g, 87, [Value.slice A m c, Value.int .i64 (k : Int), Value.int .i64 co, Value.int .i64 po], 4⟩) (by simp)))) ?_
  iterate 6 refine gx ?_
  refine TC.pr [0, 1, 2, 11] ?_
  refine TC.no rfl ?_
  refine gx ?_
  exact TE.end0 rfl (fun w hs => ⟨rfl, (hs.same hl rfl)⟩)

set_option maxRecDepth 100000 in
set_option maxHeartbeats 400000 in
theorem fail_nil (d n : Int) (w : World) : Calls Try.prog 49 #[.pointer none, .int .i64 d, .int .i64 n] w fun e w' => e = .returned (.tuple #[]) ∧ St w [] w' := by
  refine calls_from (args := [.pointer none, .int .i64 d, .int .i64 n]) Try.func49 rfl Try.ntmps49 (by simp) ?_
  refine TC.pr [0, 1, 2] ?_
  iterate 3 refine gx ?_
  refine TL.call0 (Wants.none rfl) rfl enters57 rfl rfl (v := .bool false) (fun w hs => ready_nil w) ?_
  iterate 6 refine gx ?_
  refine TC.pr [0, 1, 2, 11] ?_
  refine TC.no rfl ?_
  refine gx ?_
  exact TE.end0 rfl (fun w hs => ⟨rfl, hs⟩)
end Go.Proofs.Ytclmgfcdnokaiaa
/-
  The reader of layer 6: the closures.
-/
namespace Go.Proofs.Ytclmgfcdnokaiaa
set_option linter.unusedVariables false
set_option linter.unusedSimpArgs false
open Go Go.RowKit
theorem enters42 : Enters Try.prog 42 := ⟨_, Try.func42, by kernel_rfl, by kernel_rfl⟩
set_option maxRecDepth 100000 in
set_option maxHeartbeats 400000 in
theorem u1_c (gv : Nat) (A : Option Addr) (n c : Nat) (D : List Int) (hBD : Bytes D) (w : World) (hX : SrcX w [gv] A n .u8 D) (hl : Ent.lies ⟨gv, 51, [Value.int .u64 0], 1⟩ w) (hnc : n ≤ c) (hcm : c ≤ 9223372036854775807) (hn : n ≤ 8) : Calls Try.prog 67 #[.slice A n c, .pointer (some ⟨gv, 0, none⟩)] w fun e w' => e = .returned (.tuple #[]) ∧ St w [⟨gv, 51, [Value.int .u64 (valB D)], 1⟩] w' := by
  refine calls_from (args := [.slice A n c, .pointer (some ⟨gv, 0, none⟩)]) Try.func67 rfl Try.ntmps67 (by simp) ?_
  refine TC.pr [0, 1] ?_
  refine TC.heap (H' := [⟨gv, 51, [Value.int .u64 0], 1⟩]) (fun w hs => hs.take hl ne_nil) ?_
  iterate 8 refine gx ?_
  refine TC.loop (ι := Nat) (fun i => [(1, .pointer (some ⟨gv, 0, none⟩)), (5, .slice A n c), (6, .int .i64 (n : Int)), (7, .int .i64 (i : Int))]) (fun i => [⟨gv, 51, [Value.int .u64 (valB (D.take (i)))], 1⟩]) (fun i => n - i) (fun i => i ≤ n) 0 (Nat.zero_le _) (Sub.cons (i := 1) rfl (Sub.slice (i := 5) rfl rfl (by first | omega | (dsimp only; omega) | rfl) (by first | omega | (dsimp only; omega) | rfl) (Sub.int (i := 6) rfl (by first | omega | rfl) (Sub.int (i := 7) rfl (by first | omega | rfl) (Sub.nil))))) (fun w h => by rw [List.take_zero]; exact h) (fun i hC0 => ?_)
  iterate 6 refine gx ?_
  refine TC.split rfl (fun hq0 => ?_) (fun hq0 => ?_)
  · have hDl := hX.1
    obtain ⟨b, off, hAe, hb, hbX, hr⟩ := hX.2.resolve_left (by omega)
    have hbg : b ≠ gv := hbX gv (by simp)
    subst hAe
    have hbd := hBD.get i
    iterate 6 refine gx ?_
    refine TL.gets (Wants.none rfl) rfl (Gets.idxSlice rfl Try.underlying28 size5 rfl rfl (i := i) (by omega) (by omega) (off' := (off + i)) (by omega)) ?_
    refine TL.gets (Wants.none rfl) rfl (Gets.load1 rfl agg5 rfl (At.rowI hr (i := i) (by omega) (by omega) hb (ne_cons (by show gv ≠ b; omega) ne_nil))) ?_
    iterate 5 refine gx ?_
    refine TL.gets (Wants.none rfl) rfl (Gets.shl rfl rfl rfl (by omega) (r := (shlI .u64 (valB (D.take (i))) 8)) rfl) ?_
    refine gx ?_
    refine TL.gets (Wants.none rfl) rfl (Gets.conv rfl Try.underlying5 Try.underlying51 rfl (r := (D.getD i 0)) (wu64 rfl (by omega))) ?_
    refine TL.gets (Wants.none rfl) rfl (Gets.or rfl rfl rfl (r := valB (D.take (i + 1))) (valB_step hBD (by have := hX.1; omega) (by have := hX.1; omega))) ?_
    refine TL.store1 (Wants.none rfl) rfl rfl size51 rfl rfl rfl (i := 0) rfl rfl (by simp [] <;> omega) (cs' := [Value.int .u64 (valB (D.take (i + 1)))]) (rfl) (H' := [⟨gv, 51, [Value.int .u64 (valB (D.take (i + 1)))], 1⟩]) rfl ?_
    iterate 3 refine gx ?_
    refine TC.pr [1, 5, 6, 7] ?_
    refine gx ?_
    refine TL.gets (Wants.none rfl) rfl (Gets.add rfl rfl rfl (r := ((i : Int) + 1)) (w64 (by omega) (by omega))) ?_
    iterate 2 refine gx ?_
    exact TE.back (i + 1) (by omega) (by omega) (Sub.cons (i := 1) rfl (Sub.slice (i := 5) rfl (by first | rfl | (congr 2; omega)) (by first | omega | (dsimp only; omega) | rfl) (by first | omega | (dsimp only; omega) | rfl) (Sub.int (i := 6) rfl (by first | omega | rfl) (Sub.int (i := 7) rfl (by first | omega | rfl) (Sub.nil))))) (fun w h => h)
  · obtain rfl : n = i := by omega
    have htk : D.take n = D := List.take_of_length_le (by have := hX.1; omega)
    rw [htk]
    iterate 4 refine gx ?_
    exact TE.end0 rfl (fun w hs => ⟨rfl, hs⟩)

set_option maxRecDepth 100000 in
set_option maxHeartbeats 400000 in
theorem wclone_some (M : List Int) (ad : Addr) (m c : Nat) (w : World) (hsM : Src w (some ad) m .u8 M) (hmc : m ≤ c) (hm : m ≤ 1000010) : Calls Try.prog 42 #[.slice (some ad) m c] w fun e w' => ∃ v He, e = .returned v ∧ Own w.heap.size 5 .u8 v M He ∧ St w He w' := by
  refine calls_from (args := [.slice (some ad) m c]) Try.func42 rfl Try.ntmps42 (by simp) ?_
  refine TC.pr [0] ?_
  iterate 9 refine gx ?_
  refine TL.gets (Wants.none rfl) rfl (Gets.sliceNil (A := some ad) rfl Try.underlying28 rfl rfl) ?_
  iterate 2 refine gx ?_
  refine TC.no rfl ?_
  iterate 4 refine gx ?_
  refine TL.emptySlice (Wants.none rfl) rfl rfl Try.underlying28 size5 (fun g1 hg1 => ?_)
  refine gx ?_
  refine TL.appendOwn (H := []) (He := [⟨g1, 5, ([] : List Int).map (Value.int .u8), 0⟩]) (Wants.none rfl) rfl rfl Try.underlying28 mk5 rfl rfl rfl (W := []) (B := M) (.inr ⟨g1, 0, rfl, rfl, hg1, Nat.le_refl _, by unfold maxLen; omega⟩) (fun w hs => hsM.at_ hs (fun b hb => ne_app ne_nil (ne_cons (by show g1 ≠ b; omega) ne_nil))) (by simp only [List.length_nil]; omega) (by simp only [List.length_nil]; omega) (fun vo Ho ho hne => ?_)
  rw [List.nil_append] at ho
  iterate 4 refine gx ?_
  exact TE.ret1 rfl rfl (fun w hs => ⟨vo, Ho, rfl, ho, hs⟩)

set_option maxRecDepth 100000 in
set_option maxHeartbeats 400000 in
theorem wclone_nil (m c : Nat) (w : World) : Calls Try.prog 42 #[.slice none m c] w fun e w' => e = .returned (.slice none 0 0) ∧ St w [] w' := by
  refine calls_from (args := [.slice none m c]) Try.func42 rfl Try.ntmps42 (by simp) ?_
  refine TC.pr [0] ?_
  iterate 9 refine gx ?_
  refine TL.gets (Wants.none rfl) rfl (Gets.sliceNil (A := none) rfl Try.underlying28 rfl rfl) ?_
  iterate 2 refine gx ?_
  refine TC.yes rfl ?_
  iterate 7 refine gx ?_
  exact TE.ret1 rfl rfl (fun w hs => ⟨rfl, hs⟩)

theorem wclone_c (M : List Int) (A : Option Addr) (m c : Nat) (w : World) (hsM : Src w A m .u8 M) (hmc : m ≤ c) (hm : m ≤ 1000010) : Calls Try.prog 42 #[.slice A m c] w fun e w' => ∃ v He, e = .returned v ∧ Own w.heap.size 5 .u8 v M He ∧ St w He w' := by
  cases A with
  | some ad => exact wclone_some M ad m c w hsM hmc hm
  | none =>
    refine (wclone_nil m c w).mono fun e w' ⟨he, hw⟩ => ⟨_, [], he, ?_, hw⟩
    have hM : M = [] := by
      rcases hsM.2 with h | ⟨b, off, h, _⟩
      · exact List.length_eq_zero_iff.1 (by rw [hsM.1, h])
      · cases h
    rw [hM]; exact Own.nil _ _ _

set_option maxRecDepth 100000 in
set_option maxHeartbeats 400000 in
theorem b1_c (gv : Nat) (A : Option Addr) (n c : Nat) (D : List Int) (u0 : Value) (w : World) (hX : SrcX w [gv] A n .u8 D) (hl : Ent.lies ⟨gv, 28, [u0], 1⟩ w) (hnc : n ≤ c) (hn : n ≤ 1000000) : Calls Try.prog 70 #[.slice A n c, .pointer (some ⟨gv, 0, none⟩)] w fun e w' => ∃ v He, e = .returned (.tuple #[]) ∧ Own w.heap.size 5 .u8 v D He ∧ St w ((⟨gv, 28, [v], 1⟩ : Ent) :: He) w' := by
  refine calls_from (args := [.slice A n c, .pointer (some ⟨gv, 0, none⟩)]) Try.func70 rfl Try.ntmps70 (by simp) ?_
  refine TC.pr [0, 1] ?_
  refine TC.heap (H' := [⟨gv, 28, [u0], 1⟩]) (fun w hs => hs.take hl ne_nil) ?_
  iterate 2 refine gx ?_
  refine TL.call (ι := Value × List Ent) (V := fun yl => yl.1) (R := fun yl => Own w.heap.size 5 .u8 yl.1 D yl.2) (H' := fun yl => [⟨gv, 28, [u0], 1⟩] ++ yl.2) (Wants.none rfl) rfl enters42 rfl rfl (fun w hs => (wclone_c D A n c w (hX.at_ hs (fun b hb hbX => (ne_cons (fun h => hbX gv (by simp) h.symm) ne_nil))).src (by omega) (by omega)).mono fun e w' ⟨v, He, he, ho, hw⟩ => ⟨(v, He), he, own_mono ho hs.size, st_call hs hw ho.new⟩) (fun yl hOl => ?_)
  obtain ⟨vl, Hl⟩ := yl
  dsimp only at hOl ⊢
  obtain ⟨Al, cl, hvl, hcl, hdl⟩ := hOl.form
  subst hvl
  refine TL.store1 (Wants.none rfl) rfl rfl size28 rfl rfl rfl (i := 0) rfl rfl (by simp [] <;> omega) (cs' := [Value.slice Al D.length cl]) (rfl) (H' := [⟨gv, 28, [Value.slice Al D.length cl], 1⟩] ++ Hl) rfl ?_
  refine gx ?_
  exact TE.end0 rfl (fun w hs => ⟨_, Hl, rfl, hOl, hs⟩)
end Go.Proofs.Ytclmgfcdnokaiaa
/-
  The reader of layer 6: Uint, Length.
-/
namespace Go.Proofs.Ytclmgfcdnokaiaa
set_option linter.unusedVariables false
set_option linter.unusedSimpArgs false
open Go Go.RowKit
theorem enters47 : Enters Try.prog 47 := ⟨_, Try.func47, by kernel_rfl, by kernel_rfl⟩
theorem enters49 : Enters Try.prog 49 := ⟨_, Try.func49, by kernel_rfl, by kernel_rfl⟩
theorem enters50 : Enters Try.prog 50 := ⟨_, Try.func50, by kernel_rfl, by kernel_rfl⟩
theorem enters60 : Enters Try.prog 60 := ⟨_, Try.func60, by kernel_rfl, by kernel_rfl⟩
theorem enters61 : Enters Try.prog 61 := ⟨_, Try.func61, by kernel_rfl, by kernel_rfl⟩
theorem enters66 : Enters Try.prog 66 := ⟨_, Try.func66, by kernel_rfl, by kernel_rfl⟩
theorem enters67 : Enters Try.prog 67 := ⟨_, Try.func67, by kernel_rfl, by kernel_rfl⟩
theorem enters70 : Enters Try.prog 70 := ⟨_, Try.func70, by kernel_rfl, by kernel_rfl⟩
theorem zero51 : (Try.prog.info? 51).bind (·.zero) = some (.int .u64 0) := by kernel_rfl
instance : Zer Try.prog 51 [Value.int .u64 0] := ⟨⟨_, zero51, rfl⟩⟩
set_option maxRecDepth 100000 in
set_option maxHeartbeats 400000 in
theorem read_dead (g : Nat) (A : Option Addr) (m c k : Nat) (co po n : Int) (u : Value) (hco : co ≠ 0) (w : World) (hl : Ent.lies ⟨g, 87, rdC A m c k co po, rdN⟩ w)  : Calls Try.prog 66 #[.pointer (some ⟨g, 0, none⟩), .int .i64 n, u] w fun e w' => e = .returned (.tuple #[]) ∧ St w [] w' := by
  refine calls_from (args := [.pointer (some ⟨g, 0, none⟩), .int .i64 n, u]) Try.func66 rfl Try.ntmps66 (by simp) ?_
  refine TC.pr [0, 1, 2] ?_
  refine TC.heap (H' := [⟨g, 87, [Value.slice A m c, Value.int .i64 (k : Int), Value.int .i64 co, Value.int .i64 po], 4⟩]) (fun w hs => hs.take hl ne_nil) ?_
  iterate 4 refine gx ?_
  refine TL.call0 (Wants.none rfl) rfl enters57 rfl rfl (v := .bool false) (fun w hs => calls_no hco (ready_c g A m c k co po w (hs.has (⟨g, 87, [Value.slice A m c, Value.int .i64 (k : Int), Value.int .i64 co, Value.int .i64 po], 4⟩) (by simp)))) ?_
  iterate 3 refine gx ?_
  refine TC.yes rfl ?_
  iterate 2 refine gx ?_
  exact TE.ret0 rfl (fun w hs => ⟨rfl, (hs.same hl rfl)⟩)

set_option maxRecDepth 100000 in
set_option maxHeartbeats 400000 in
theorem read_nil (n : Int) (u : Value) (w : World) : Calls Try.prog 66 #[.pointer none, .int .i64 n, u] w fun e w' => e = .returned (.tuple #[]) ∧ St w [] w' := by
  refine calls_from (args := [.pointer none, .int .i64 n, u]) Try.func66 rfl Try.ntmps66 (by simp) ?_
  refine TC.pr [0, 1, 2] ?_
  iterate 4 refine gx ?_
  refine TL.call0 (Wants.none rfl) rfl enters57 rfl rfl (v := .bool false) (fun w hs => ready_nil w) ?_
  iterate 3 refine gx ?_
  refine TC.yes rfl ?_
  iterate 2 refine gx ?_
  exact TE.ret0 rfl (fun w hs => ⟨rfl, hs⟩)

set_option maxRecDepth 100000 in
set_option maxHeartbeats 400000 in
theorem read_short (g : Nat) (A : Option Addr) (m c k : Nat) (po n : Int) (u : Value) (hn : (m : Int) - (k : Int) < n) (w : World) (hl : Ent.lies ⟨g, 87, rdC A m c k 0 po, rdN⟩ w) (hk : k ≤ m) (hmc : m ≤ c) (hcm : c ≤ 9223372036854775807)  : Calls Try.prog 66 #[.pointer (some ⟨g, 0, none⟩), .int .i64 n, u] w fun e w' => e = .returned (.tuple #[]) ∧ St w [⟨g, 87, rdC A m c k 8 (m : Int), rdN⟩] w' := by
  refine calls_from (args := [.pointer (some ⟨g, 0, none⟩), .int .i64 n, u]) Try.func66 rfl Try.ntmps66 (by simp) ?_
  refine TC.pr [0, 1, 2] ?_
  refine TC.heap (H' := [⟨g, 87, [Value.slice A m c, Value.int .i64 (k : Int), Value.int .i64 0, Value.int .i64 po], 4⟩]) (fun w hs => hs.take hl ne_nil) ?_
  iterate 4 refine gx ?_
  refine TL.call0 (Wants.none rfl) rfl enters57 rfl rfl (v := .bool true) (fun w hs => calls_yes rfl (ready_c g A m c k 0 po w (hs.has (⟨g, 87, [Value.slice A m c, Value.int .i64 (k : Int), Value.int .i64 0, Value.int .i64 po], 4⟩) (by simp)))) ?_
  iterate 3 refine gx ?_
  refine TC.no rfl ?_
  iterate 7 refine gx ?_
  refine TL.gets (Wants.none rfl) rfl (Gets.nilCheck rfl rfl) ?_
  refine gx ?_
  refine TL.call0 (Wants.none rfl) rfl enters58 rfl rfl (v := .slice (cutA A c k 1) (m - k) (c - k)) (fun w hs => left_c g A m c k 0 po w (hs.has (⟨g, 87, [Value.slice A m c, Value.int .i64 (k : Int), Value.int .i64 0, Value.int .i64 po], 4⟩) (by simp)) (by omega) (by omega) (by omega)) ?_
  refine gx ?_
  refine TL.gets (Wants.none rfl) rfl (Gets.isTrue (Gets.gtr rfl rfl rfl) (by omega)) ?_
  iterate 2 refine gx ?_
  refine TC.pr [0, 1, 2, 15] ?_
  refine TC.yes rfl ?_
  iterate 4 refine gx ?_
  refine TL.gets (Wants.none rfl) rfl (Gets.nilCheck rfl rfl) ?_
  refine gx ?_
  refine TL.call0 (Wants.none rfl) rfl enters61 rfl rfl (v := .int .i64 (m : Int)) (fun w hs => end_c g A m c k 0 po w (hs.has (⟨g, 87, [Value.slice A m c, Value.int .i64 (k : Int), Value.int .i64 0, Value.int .i64 po], 4⟩) (by simp)) (by omega) (by omega) (by omega)) ?_
  refine TL.call (ι := Unit) (V := fun _ => .tuple #[]) (R := fun _ => True) (H' := fun _ => [⟨g, 87, [Value.slice A m c, Value.int .i64 (k : Int), Value.int .i64 8, Value.int .i64 (m : Int)], 4⟩]) (Wants.none rfl) rfl enters49 rfl rfl (fun w hs => (fail_set g A m c k po 8 (m : Int) (by decide) w (hs.has (⟨g, 87, [Value.slice A m c, Value.int .i64 (k : Int), Value.int .i64 0, Value.int .i64 po], 4⟩) (by simp))).mono fun e w' ⟨he, hw⟩ => ⟨(), he, trivial, St.turn (i := 0) (e := ⟨g, 87, [Value.slice A m c, Value.int .i64 (k : Int), Value.int .i64 8, Value.int .i64 (m : Int)], 4⟩) hs rfl rfl hw⟩) (fun _ _ => ?_)
  iterate 4 refine gx ?_
  exact TE.ret0 rfl (fun w hs => ⟨rfl, hs⟩)

set_option maxRecDepth 100000 in
set_option maxHeartbeats 400000 in
theorem read_u (gv : Nat) (g : Nat) (A : Option Addr) (m c k : Nat) (n : Nat) (po : Int) (B : List Int) (hkn : k + n ≤ m) (hn : n ≤ 8) (w : World) (hl : Ent.lies ⟨g, 87, rdC A m c k 0 po, rdN⟩ w) (hv : Ent.lies ⟨gv, 51, [Value.int .u64 0], 1⟩ w) (hk : k ≤ m) (hmc : m ≤ c) (hcm : c ≤ 9223372036854775807) (hgg : g ≠ gv) (hX : SrcX w [gv, g] A m .u8 B) (hBB : Bytes B)  : Calls Try.prog 66 #[.pointer (some ⟨g, 0, none⟩), .int .i64 (n : Int), .func (.func 67) #[] #[.pointer (some ⟨gv, 0, none⟩)]] w fun e w' => e = .returned (.tuple #[]) ∧ St w [⟨gv, 51, [Value.int .u64 (valB ((B.drop k).take n))], 1⟩, ⟨g, 87, rdC A m c (k + n) 0 po, rdN⟩] w' := by
  refine calls_from (args := [.pointer (some ⟨g, 0, none⟩), .int .i64 (n : Int), .func (.func 67) #[] #[.pointer (some ⟨gv, 0, none⟩)]]) Try.func66 rfl Try.ntmps66 (by simp) ?_
  refine TC.pr [0, 1, 2] ?_
  refine TC.heap (H' := [⟨gv, 51, [Value.int .u64 0], 1⟩, ⟨g, 87, [Value.slice A m c, Value.int .i64 (k : Int), Value.int .i64 0, Value.int .i64 po], 4⟩]) (fun w hs => (hs.take hl ne_nil).take hv (ne_cons (by show g ≠ gv; exact hgg) ne_nil)) ?_
  iterate 4 refine gx ?_
  refine TL.call0 (Wants.none rfl) rfl enters57 rfl rfl (v := .bool true) (fun w hs => calls_yes rfl (ready_c g A m c k 0 po w (hs.has (⟨g, 87, [Value.slice A m c, Value.int .i64 (k : Int), Value.int .i64 0, Value.int .i64 po], 4⟩) (by simp)))) ?_
  iterate 3 refine gx ?_
  refine TC.no rfl ?_
  iterate 7 refine gx ?_
  refine TL.gets (Wants.none rfl) rfl (Gets.nilCheck rfl rfl) ?_
  refine gx ?_
  refine TL.call0 (Wants.none rfl) rfl enters58 rfl rfl (v := .slice (cutA A c k 1) (m - k) (c - k)) (fun w hs => left_c g A m c k 0 po w (hs.has (⟨g, 87, [Value.slice A m c, Value.int .i64 (k : Int), Value.int .i64 0, Value.int .i64 po], 4⟩) (by simp)) (by omega) (by omega) (by omega)) ?_
  refine gx ?_
  refine TL.gets (Wants.none rfl) rfl (Gets.isFalse (Gets.gtr rfl rfl rfl) (by omega)) ?_
  iterate 2 refine gx ?_
  refine TC.pr [0, 1, 2, 15] ?_
  refine TC.no rfl ?_
  iterate 5 refine gx ?_
  refine TL.gets (Wants.none rfl) rfl (Gets.nilCheck rfl rfl) ?_
  iterate 2 refine gx ?_
  refine TL.call (ι := Unit) (V := fun _ => .slice (cutA A c k 1) n (c - k)) (R := fun _ => True) (H' := fun _ => [⟨gv, 51, [Value.int .u64 0], 1⟩, ⟨g, 87, [Value.slice A m c, Value.int .i64 (((k + n) : Nat) : Int), Value.int .i64 0, Value.int .i64 po], 4⟩]) (Wants.none rfl) rfl enters60 rfl rfl (fun w hs => (pass_c g A m c k n (by omega) 0 po w (hs.has (⟨g, 87, [Value.slice A m c, Value.int .i64 (k : Int), Value.int .i64 0, Value.int .i64 po], 4⟩) (by simp)) (by omega) (by omega) (by omega)).mono fun e w' ⟨he, hw⟩ => ⟨(), he, trivial, St.turn (i := 1) (e := ⟨g, 87, [Value.slice A m c, Value.int .i64 (((k + n) : Nat) : Int), Value.int .i64 0, Value.int .i64 po], 4⟩) hs rfl rfl hw⟩) (fun _ _ => ?_)
  refine TL.callF (ι := Unit) (V := fun _ => .tuple #[]) (R := fun _ => True) (H' := fun _ => [⟨gv, 51, [Value.int .u64 (valB ((B.drop k).take n))], 1⟩, ⟨g, 87, [Value.slice A m c, Value.int .i64 (((k + n) : Nat) : Int), Value.int .i64 0, Value.int .i64 po], 4⟩]) (Wants.none rfl) rfl enters67 rfl rfl rfl (fun w hs => (u1_c gv (cutA A c k 1) n (c - k) ((B.drop k).take n) ((hBB.drop k).take n) w ((((hX.at_ hs (fun b hb hbX => (ne_cons (fun h => hbX gv (by simp) h.symm) (ne_cons (fun h => hbX g (by simp) h.symm) ne_nil)))).drop (by omega) (by omega)).head (by omega)).sub (Y := [gv]) (fun y hy => by rw [List.mem_singleton.1 hy]; simp)) (hs.has (⟨gv, 51, [Value.int .u64 0], 1⟩) (by simp)) (by omega) (by omega) (by omega)).mono fun e w' ⟨he, hw⟩ => ⟨(), he, trivial, St.turn (i := 0) (e := ⟨gv, 51, [Value.int .u64 (valB ((B.drop k).take n))], 1⟩) hs rfl rfl hw⟩) (fun _ _ => ?_)
  refine gx ?_
  exact TE.end0 rfl (fun w hs => ⟨rfl, hs⟩)

theorem st_swap (a b : Ent) (He : List Ent) : ([a] ++ (He ++ [b])).Perm ([a, b] ++ He) := by
  show (a :: (He ++ [b])).Perm (a :: b :: He)
  exact List.Perm.cons _ (List.perm_append_comm (l₁ := He) (l₂ := [b]))

set_option maxRecDepth 100000 in
set_option maxHeartbeats 400000 in
theorem read_b (gv : Nat) (g : Nat) (A : Option Addr) (m c k : Nat) (n : Nat) (po : Int) (B : List Int) (hkn : k + n ≤ m) (hm : m ≤ 1000000) (w : World) (hl : Ent.lies ⟨g, 87, rdC A m c k 0 po, rdN⟩ w) (hv : Ent.lies ⟨gv, 28, [Value.slice none 0 0], 1⟩ w) (hk : k ≤ m) (hmc : m ≤ c) (hcm : c ≤ 9223372036854775807) (hgg : g ≠ gv) (hX : SrcX w [gv, g] A m .u8 B) (hBB : Bytes B)  : Calls Try.prog 66 #[.pointer (some ⟨g, 0, none⟩), .int .i64 (n : Int), .func (.func 70) #[] #[.pointer (some ⟨gv, 0, none⟩)]] w fun e w' => ∃ v He, e = .returned (.tuple #[]) ∧ Own w.heap.size 5 .u8 v ((B.drop k).take n) He ∧ St w ((⟨gv, 28, [v], 1⟩ : Ent) :: (⟨g, 87, rdC A m c (k + n) 0 po, rdN⟩ : Ent) :: He) w' := by
  refine calls_from (args := [.pointer (some ⟨g, 0, none⟩), .int .i64 (n : Int), .func (.func 70) #[] #[.pointer (some ⟨gv, 0, none⟩)]]) Try.func66 rfl Try.ntmps66 (by simp) ?_
  refine TC.pr [0, 1, 2] ?_
  refine TC.heap (H' := [⟨gv, 28, [Value.slice none 0 0], 1⟩, ⟨g, 87, [Value.slice A m c, Value.int .i64 (k : Int), Value.int .i64 0, Value.int .i64 po], 4⟩]) (fun w hs => (hs.take hl ne_nil).take hv (ne_cons (by show g ≠ gv; exact hgg) ne_nil)) ?_
  iterate 4 refine gx ?_
  refine TL.call0 (Wants.none rfl) rfl enters57 rfl rfl (v := .bool true) (fun w hs => calls_yes rfl (ready_c g A m c k 0 po w (hs.has (⟨g, 87, [Value.slice A m c, Value.int .i64 (k : Int), Value.int .i64 0, Value.int .i64 po], 4⟩) (by simp)))) ?_
  iterate 3 refine gx ?_
  refine TC.no rfl ?_
  iterate 7 refine gx ?_
  refine TL.gets (Wants.none rfl) rfl (Gets.nilCheck rfl rfl) ?_
  refine gx ?_
  refine TL.call0 (Wants.none rfl) rfl enters58 rfl rfl (v := .slice (cutA A c k 1) (m - k) (c - k)) (fun w hs => left_c g A m c k 0 po w (hs.has (⟨g, 87, [Value.slice A m c, Value.int .i64 (k : Int), Value.int .i64 0, Value.int .i64 po], 4⟩) (by simp)) (by omega) (by omega) (by omega)) ?_
  refine gx ?_
  refine TL.gets (Wants.none rfl) rfl (Gets.isFalse (Gets.gtr rfl rfl rfl) (by omega)) ?_
  iterate 2 refine gx ?_
  refine TC.pr [0, 1, 2, 15] ?_
  refine TC.no rfl ?_
  iterate 5 refine gx ?_
  refine TL.gets (Wants.none rfl) rfl (Gets.nilCheck rfl rfl) ?_
  iterate 2 refine gx ?_
  refine TL.call (ι := Unit) (V := fun _ => .slice (cutA A c k 1) n (c - k)) (R := fun _ => True) (H' := fun _ => [⟨gv, 28, [Value.slice none 0 0], 1⟩, ⟨g, 87, [Value.slice A m c, Value.int .i64 (((k + n) : Nat) : Int), Value.int .i64 0, Value.int .i64 po], 4⟩]) (Wants.none rfl) rfl enters60 rfl rfl (fun w hs => (pass_c g A m c k n (by omega) 0 po w (hs.has (⟨g, 87, [Value.slice A m c, Value.int .i64 (k : Int), Value.int .i64 0, Value.int .i64 po], 4⟩) (by simp)) (by omega) (by omega) (by omega)).mono fun e w' ⟨he, hw⟩ => ⟨(), he, trivial, St.turn (i := 1) (e := ⟨g, 87, [Value.slice A m c, Value.int .i64 (((k + n) : Nat) : Int), Value.int .i64 0, Value.int .i64 po], 4⟩) hs rfl rfl hw⟩) (fun _ _ => ?_)
  refine TL.callF (ι := Value × List Ent) (V := fun _ => .tuple #[]) (R := fun y => Own w.heap.size 5 .u8 y.1 ((B.drop k).take n) y.2) (H' := fun y => [⟨gv, 28, [y.1], 1⟩, ⟨g, 87, [Value.slice A m c, Value.int .i64 (((k + n) : Nat) : Int), Value.int .i64 0, Value.int .i64 po], 4⟩] ++ y.2) (Wants.none rfl) rfl enters70 rfl rfl rfl (fun w hs => (b1_c gv (cutA A c k 1) n (c - k) ((B.drop k).take n) _ w ((((hX.at_ hs (fun b hb hbX => (ne_cons (fun h => hbX gv (by simp) h.symm) (ne_cons (fun h => hbX g (by simp) h.symm) ne_nil)))).drop (by omega) (by omega)).head (by omega)).sub (Y := [gv]) (fun y hy => by rw [List.mem_singleton.1 hy]; simp)) (hs.has (⟨gv, 28, [Value.slice none 0 0], 1⟩) (by simp)) (by omega) (by omega)).mono fun e w' ⟨v, He, he, ho, hw⟩ => ⟨(v, He), he, own_mono ho hs.size, (St.turns (H := [⟨gv, 28, [Value.slice none 0 0], 1⟩]) (F := [⟨g, 87, [Value.slice A m c, Value.int .i64 (((k + n) : Nat) : Int), Value.int .i64 0, Value.int .i64 po], 4⟩]) (H' := [⟨gv, 28, [v], 1⟩]) (E := He) hs hw rfl ho.new).perm (st_swap _ _ _)⟩) (fun y hR => ?_)
  obtain ⟨v, He⟩ := y
  dsimp only at hR ⊢
  refine gx ?_
  exact TE.end0 rfl (fun w hs => ⟨v, He, rfl, hR, hs⟩)

set_option maxRecDepth 100000 in
set_option maxHeartbeats 400000 in
theorem uint_ok (g : Nat) (A : Option Addr) (m c k : Nat) (n : Nat) (po : Int) (hn : 1 ≤ n ∧ n ≤ 8) (hkn : k + n ≤ m) (w : World) (hl : Ent.lies ⟨g, 87, rdC A m c k 0 po, rdN⟩ w) (hk : k ≤ m) (hmc : m ≤ c) (hcm : c ≤ 9223372036854775807) (B : List Int) (hX : SrcX w [g] A m .u8 B) (hBB : Bytes B)  : Calls Try.prog 47 #[.pointer (some ⟨g, 0, none⟩), .int .i64 (n : Int)] w fun e w' => e = .returned (.int .u64 (valB ((B.drop k).take n))) ∧ St w [⟨g, 87, rdC A m c (k + n) 0 po, rdN⟩] w' := by
  have hg : g < w.heap.size := hl.lt
  refine calls_from (args := [.pointer (some ⟨g, 0, none⟩), .int .i64 (n : Int)]) Try.func47 rfl Try.ntmps47 (by simp) ?_
  refine TC.pr [0, 1] ?_
  refine TC.heap (H' := [⟨g, 87, [Value.slice A m c, Value.int .i64 (k : Int), Value.int .i64 0, Value.int .i64 po], 4⟩]) (fun w hs => hs.take hl ne_nil) ?_
  iterate 9 refine gx ?_
  refine TL.call0 (Wants.none rfl) rfl enters55 rfl rfl (v := .bool true) (fun w hs => (vsize_c (n : Int) w).mono fun e w' h => by rw [decide_eq_true (p := 1 ≤ (n : Int) ∧ (n : Int) ≤ 8) (by omega)] at h; exact h) ?_
  iterate 3 refine gx ?_
  refine TC.no rfl ?_
  iterate 4 refine gx ?_
  refine TL.al (fun g1 hg1 => ?_)
  refine TL.store1 (Wants.none rfl) rfl rfl size51 rfl rfl rfl (i := 0) rfl rfl (by simp [] <;> omega) (cs' := [Value.int .u64 0]) (rfl) (H' := [⟨g1, 51, [Value.int .u64 0], 1⟩, ⟨g, 87, [Value.slice A m c, Value.int .i64 (k : Int), Value.int .i64 0, Value.int .i64 po], 4⟩]) rfl ?_
  iterate 6 refine gx ?_
  refine TL.gets (Wants.none rfl) rfl (Gets.makeFunc rfl rfl rfl) ?_
  refine TL.call (ι := Unit) (V := fun _ => .tuple #[]) (R := fun _ => True) (H' := fun _ => [⟨g1, 51, [Value.int .u64 (valB ((B.drop k).take n))], 1⟩, ⟨g, 87, [Value.slice A m c, Value.int .i64 (((k + n) : Nat) : Int), Value.int .i64 0, Value.int .i64 po], 4⟩]) (Wants.none rfl) rfl enters66 rfl rfl (fun w hs => (read_u g1 g A m c k n po B (by omega) (by omega) w (hs.has (⟨g, 87, [Value.slice A m c, Value.int .i64 (k : Int), Value.int .i64 0, Value.int .i64 po], 4⟩) (by simp)) (hs.has (⟨g1, 51, [Value.int .u64 0], 1⟩) (by simp)) (by omega) (by omega) (by omega) (by omega) ((hX.more hg1).at_ hs (fun b hb hbX => (ne_cons (fun h => hbX g1 (by simp) h.symm) (ne_cons (fun h => hbX g (by simp) h.symm) ne_nil)))) hBB).mono fun e w' ⟨he, hw⟩ => ⟨(), he, trivial, St.turns (H := [⟨g1, 51, [Value.int .u64 0], 1⟩, ⟨g, 87, [Value.slice A m c, Value.int .i64 (k : Int), Value.int .i64 0, Value.int .i64 po], 4⟩]) (F := []) (H' := [⟨g1, 51, [Value.int .u64 (valB ((B.drop k).take n))], 1⟩, ⟨g, 87, [Value.slice A m c, Value.int .i64 (((k + n) : Nat) : Int), Value.int .i64 0, Value.int .i64 po], 4⟩]) (E := []) hs hw rfl (by simp)⟩) (fun _ _ => ?_)
  iterate 2 refine gx ?_
  refine TC.pr [4, 5] ?_
  iterate 7 refine gx ?_
  exact TE.ret1 rfl rfl (fun w hs => ⟨rfl, hs.drop (by assumption)⟩)

set_option maxRecDepth 100000 in
set_option maxHeartbeats 400000 in
theorem uint_short (g : Nat) (A : Option Addr) (m c k : Nat) (n po : Int) (hn : 1 ≤ n ∧ n ≤ 8) (hkn : (m : Int) - (k : Int) < n) (w : World) (hl : Ent.lies ⟨g, 87, rdC A m c k 0 po, rdN⟩ w) (hk : k ≤ m) (hmc : m ≤ c) (hcm : c ≤ 9223372036854775807)  : Calls Try.prog 47 #[.pointer (some ⟨g, 0, none⟩), .int .i64 n] w fun e w' => e = .returned (.int .u64 0) ∧ St w [⟨g, 87, rdC A m c k 8 (m : Int), rdN⟩] w' := by
  have hg : g < w.heap.size := hl.lt
  refine calls_from (args := [.pointer (some ⟨g, 0, none⟩), .int .i64 n]) Try.func47 rfl Try.ntmps47 (by simp) ?_
  refine TC.pr [0, 1] ?_
  refine TC.heap (H' := [⟨g, 87, [Value.slice A m c, Value.int .i64 (k : Int), Value.int .i64 0, Value.int .i64 po], 4⟩]) (fun w hs => hs.take hl ne_nil) ?_
  iterate 9 refine gx ?_
  refine TL.call0 (Wants.none rfl) rfl enters55 rfl rfl (v := .bool true) (fun w hs => (vsize_c n w).mono fun e w' h => by rw [decide_eq_true (p := 1 ≤ n ∧ n ≤ 8) hn] at h; exact h) ?_
  iterate 3 refine gx ?_
  refine TC.no rfl ?_
  iterate 4 refine gx ?_
  refine TL.al (fun g1 hg1 => ?_)
  refine TL.store1 (Wants.none rfl) rfl rfl size51 rfl rfl rfl (i := 0) rfl rfl (by simp [] <;> omega) (cs' := [Value.int .u64 0]) (rfl) (H' := [⟨g1, 51, [Value.int .u64 0], 1⟩, ⟨g, 87, [Value.slice A m c, Value.int .i64 (k : Int), Value.int .i64 0, Value.int .i64 po], 4⟩]) rfl ?_
  iterate 6 refine gx ?_
  refine TL.gets (Wants.none rfl) rfl (Gets.makeFunc rfl rfl rfl) ?_
  refine TL.call (ι := Unit) (V := fun _ => .tuple #[]) (R := fun _ => True) (H' := fun _ => [⟨g1, 51, [Value.int .u64 0], 1⟩, ⟨g, 87, [Value.slice A m c, Value.int .i64 (k : Int), Value.int .i64 8, Value.int .i64 (m : Int)], 4⟩]) (Wants.none rfl) rfl enters66 rfl rfl (fun w hs => (read_short g A m c k po n (.func (.func 67) #[] #[.pointer (some ⟨g1, 0, none⟩)]) (by omega) w (hs.has (⟨g, 87, [Value.slice A m c, Value.int .i64 (k : Int), Value.int .i64 0, Value.int .i64 po], 4⟩) (by simp)) (by omega) (by omega) (by omega)).mono fun e w' ⟨he, hw⟩ => ⟨(), he, trivial, St.turn (i := 1) (e := ⟨g, 87, [Value.slice A m c, Value.int .i64 (k : Int), Value.int .i64 8, Value.int .i64 (m : Int)], 4⟩) hs rfl rfl hw⟩) (fun _ _ => ?_)
  iterate 2 refine gx ?_
  refine TC.pr [4, 5] ?_
  iterate 7 refine gx ?_
  exact TE.ret1 rfl rfl (fun w hs => ⟨rfl, hs.drop (by assumption)⟩)

set_option maxRecDepth 100000 in
set_option maxHeartbeats 400000 in
theorem uint_f (g : Nat) (A : Option Addr) (m c k : Nat) (co po n : Int) (hco : co ≠ 0) (w : World) (hl : Ent.lies ⟨g, 87, rdC A m c k co po, rdN⟩ w)  : Calls Try.prog 47 #[.pointer (some ⟨g, 0, none⟩), .int .i64 n] w fun e w' => e = .returned (.int .u64 0) ∧ St w [] w' := by
  have hg : g < w.heap.size := hl.lt
  refine calls_from (args := [.pointer (some ⟨g, 0, none⟩), .int .i64 n]) Try.func47 rfl Try.ntmps47 (by simp) ?_
  refine TC.pr [0, 1] ?_
  refine TC.heap (H' := [⟨g, 87, [Value.slice A m c, Value.int .i64 (k : Int), Value.int .i64 co, Value.int .i64 po], 4⟩]) (fun w hs => hs.take hl ne_nil) ?_
  iterate 9 refine gx ?_
  by_cases c1 : 1 ≤ n ∧ n ≤ 8
  · refine TL.call0 (Wants.none rfl) rfl enters55 rfl rfl (v := .bool true) (fun w hs => (vsize_c n w).mono fun e w' h => by rw [decide_eq_true (p := 1 ≤ n ∧ n ≤ 8) c1] at h; exact h) ?_
    iterate 3 refine gx ?_
    refine TC.no rfl ?_
    iterate 4 refine gx ?_
    refine TL.al (fun g1 hg1 => ?_)
    refine TL.store1 (Wants.none rfl) rfl rfl size51 rfl rfl rfl (i := 0) rfl rfl (by simp [] <;> omega) (cs' := [Value.int .u64 0]) (rfl) (H' := [⟨g1, 51, [Value.int .u64 0], 1⟩, ⟨g, 87, [Value.slice A m c, Value.int .i64 (k : Int), Value.int .i64 co, Value.int .i64 po], 4⟩]) rfl ?_
    iterate 6 refine gx ?_
    refine TL.gets (Wants.none rfl) rfl (Gets.makeFunc rfl rfl rfl) ?_
    refine TL.call0 (Wants.none rfl) rfl enters66 rfl rfl (v := .tuple #[]) (fun w hs => read_dead g A m c k co po n (.func (.func 67) #[] #[.pointer (some ⟨g1, 0, none⟩)]) hco w (hs.has (⟨g, 87, [Value.slice A m c, Value.int .i64 (k : Int), Value.int .i64 co, Value.int .i64 po], 4⟩) (by simp))) ?_
    iterate 2 refine gx ?_
    refine TC.pr [4, 5] ?_
    iterate 7 refine gx ?_
    exact TE.ret1 rfl rfl (fun w hs => ⟨rfl, ((hs.drop (by assumption)).same hl rfl)⟩)
  · refine TL.call0 (Wants.none rfl) rfl enters55 rfl rfl (v := .bool false) (fun w hs => (vsize_c n w).mono fun e w' h => by rw [decide_eq_false (p := 1 ≤ n ∧ n ≤ 8) c1] at h; exact h) ?_
    iterate 3 refine gx ?_
    refine TC.yes rfl ?_
    iterate 4 refine gx ?_
    refine TL.call0 (Wants.none rfl) rfl enters50 rfl rfl (v := .int .i64 (k : Int)) (fun w hs => at_c g A m c k co po w (hs.has (⟨g, 87, [Value.slice A m c, Value.int .i64 (k : Int), Value.int .i64 co, Value.int .i64 po], 4⟩) (by simp))) ?_
    refine TL.call0 (Wants.none rfl) rfl enters49 rfl rfl (v := .tuple #[]) (fun w hs => fail_dead g A m c k co po 2 (k : Int) hco w (hs.has (⟨g, 87, [Value.slice A m c, Value.int .i64 (k : Int), Value.int .i64 co, Value.int .i64 po], 4⟩) (by simp))) ?_
    iterate 2 refine gx ?_
    refine TC.pr [0, 1, 4] ?_
    iterate 7 refine gx ?_
    exact TE.ret1 rfl rfl (fun w hs => ⟨rfl, (hs.same hl rfl)⟩)

set_option maxRecDepth 100000 in
set_option maxHeartbeats 400000 in
theorem uint_nil (n : Int) (w : World) : Calls Try.prog 47 #[.pointer none, .int .i64 n] w fun e w' => e = .returned (.int .u64 0) ∧ St w [] w' := by
  refine calls_from (args := [.pointer none, .int .i64 n]) Try.func47 rfl Try.ntmps47 (by simp) ?_
  refine TC.pr [0, 1] ?_
  iterate 9 refine gx ?_
  by_cases c1 : 1 ≤ n ∧ n ≤ 8
  · refine TL.call0 (Wants.none rfl) rfl enters55 rfl rfl (v := .bool true) (fun w hs => (vsize_c n w).mono fun e w' h => by rw [decide_eq_true (p := 1 ≤ n ∧ n ≤ 8) c1] at h; exact h) ?_
    iterate 3 refine gx ?_
    refine TC.no rfl ?_
    iterate 4 refine gx ?_
    refine TL.al (fun g1 hg1 => ?_)
    refine TL.store1 (Wants.none rfl) rfl rfl size51 rfl rfl rfl (i := 0) rfl rfl (by simp [] <;> omega) (cs' := [Value.int .u64 0]) (rfl) (H' := [⟨g1, 51, [Value.int .u64 0], 1⟩]) rfl ?_
    iterate 6 refine gx ?_
    refine TL.gets (Wants.none rfl) rfl (Gets.makeFunc rfl rfl rfl) ?_
    refine TL.call0 (Wants.none rfl) rfl enters66 rfl rfl (v := .tuple #[]) (fun w hs => read_nil n (.func (.func 67) #[] #[.pointer (some ⟨g1, 0, none⟩)]) w) ?_
    iterate 2 refine gx ?_
    refine TC.pr [4, 5] ?_
    iterate 7 refine gx ?_
    exact TE.ret1 rfl rfl (fun w hs => ⟨rfl, (hs.drop (by assumption))⟩)
  · refine TL.call0 (Wants.none rfl) rfl enters55 rfl rfl (v := .bool false) (fun w hs => (vsize_c n w).mono fun e w' h => by rw [decide_eq_false (p := 1 ≤ n ∧ n ≤ 8) c1] at h; exact h) ?_
    iterate 3 refine gx ?_
    refine TC.yes rfl ?_
    iterate 4 refine gx ?_
    refine TL.call0 (Wants.none rfl) rfl enters50 rfl rfl (v := .int .i64 0) (fun w hs => at_nil w) ?_
    refine TL.call0 (Wants.none rfl) rfl enters49 rfl rfl (v := .tuple #[]) (fun w hs => fail_nil 2 0 w) ?_
    iterate 2 refine gx ?_
    refine TC.pr [0, 1, 4] ?_
    iterate 7 refine gx ?_
    exact TE.ret1 rfl rfl (fun w hs => ⟨rfl, hs⟩)

set_option maxRecDepth 100000 in
set_option maxHeartbeats 400000 in
theorem length_ok (g : Nat) (A : Option Addr) (m c k : Nat) (po : Int) (hkn : k + 8 ≤ m) (w : World) (hl : Ent.lies ⟨g, 87, rdC A m c k 0 po, rdN⟩ w) (hk : k ≤ m) (hmc : m ≤ c) (hcm : c ≤ 9223372036854775807) (B : List Int) (hX : SrcX w [g] A m .u8 B) (hBB : Bytes B) (hv : (valB ((B.drop k).take 8)) ≤ 4611686018427387903) : Calls Try.prog 44 #[.pointer (some ⟨g, 0, none⟩)] w fun e w' => e = .returned (.int .i64 (valB ((B.drop k).take 8))) ∧ St w [⟨g, 87, rdC A m c (k + 8) 0 po, rdN⟩] w' := by
  have hv0 := valB_bd ((hBB.drop k).take 8) (by rw [List.length_take]; omega)
  refine calls_from (args := [.pointer (some ⟨g, 0, none⟩)]) Try.func44 rfl Try.ntmps44 (by simp) ?_
  refine TC.pr [0] ?_
  refine TC.heap (H' := [⟨g, 87, [Value.slice A m c, Value.int .i64 (k : Int), Value.int .i64 0, Value.int .i64 po], 4⟩]) (fun w hs => hs.take hl ne_nil) ?_
  iterate 8 refine gx ?_
  refine TL.call0 (Wants.none rfl) rfl enters50 rfl rfl (v := .int .i64 (k : Int)) (fun w hs => at_c g A m c k 0 po w (hs.has (⟨g, 87, [Value.slice A m c, Value.int .i64 (k : Int), Value.int .i64 0, Value.int .i64 po], 4⟩) (by simp))) ?_
  iterate 6 refine gx ?_
  refine TL.call (ι := Unit) (V := fun _ => .int .u64 (valB ((B.drop k).take 8))) (R := fun _ => True) (H' := fun _ => [⟨g, 87, [Value.slice A m c, Value.int .i64 (((k + 8) : Nat) : Int), Value.int .i64 0, Value.int .i64 po], 4⟩]) (Wants.none rfl) rfl enters47 rfl rfl (fun w hs => (uint_ok g A m c k 8 po (by omega) (by omega) w (hs.has (⟨g, 87, [Value.slice A m c, Value.int .i64 (k : Int), Value.int .i64 0, Value.int .i64 po], 4⟩) (by simp)) (by omega) (by omega) (by omega) B (hX.at_ hs (fun b hb hbX => (ne_cons (fun h => hbX g (by simp) h.symm) ne_nil))) hBB).mono fun e w' ⟨he, hw⟩ => ⟨(), he, trivial, St.turn (i := 0) (e := ⟨g, 87, [Value.slice A m c, Value.int .i64 (((k + 8) : Nat) : Int), Value.int .i64 0, Value.int .i64 po], 4⟩) hs rfl rfl hw⟩) (fun _ _ => ?_)
  iterate 7 refine gx ?_
  refine TL.gets (Wants.none rfl) rfl (Gets.isFalse (Gets.gtr rfl rfl rfl) (by omega)) ?_
  iterate 2 refine gx ?_
  refine TC.pr [0, 2, 3, 4, 10] ?_
  refine TC.no rfl ?_
  iterate 5 refine gx ?_
  refine TL.gets (Wants.none rfl) rfl (Gets.conv rfl Try.underlying51 Try.underlying3 rfl (r := (valB ((B.drop k).take 8))) (w64 rfl (by omega))) ?_
  iterate 4 refine gx ?_
  exact TE.ret1 rfl rfl (fun w hs => ⟨rfl, hs⟩)

set_option maxRecDepth 100000 in
set_option maxHeartbeats 400000 in
theorem length_big (g : Nat) (A : Option Addr) (m c k : Nat) (po : Int) (hkn : k + 8 ≤ m) (w : World) (hl : Ent.lies ⟨g, 87, rdC A m c k 0 po, rdN⟩ w) (hk : k ≤ m) (hmc : m ≤ c) (hcm : c ≤ 9223372036854775807) (B : List Int) (hX : SrcX w [g] A m .u8 B) (hBB : Bytes B) (hv : 4611686018427387903 < (valB ((B.drop k).take 8))) : Calls Try.prog 44 #[.pointer (some ⟨g, 0, none⟩)] w fun e w' => e = .returned (.int .i64 0) ∧ St w [⟨g, 87, rdC A m c (k + 8) 2 (k : Int), rdN⟩] w' := by
  have hv0 := valB_bd ((hBB.drop k).take 8) (by rw [List.length_take]; omega)
  refine calls_from (args := [.pointer (some ⟨g, 0, none⟩)]) Try.func44 rfl Try.ntmps44 (by simp) ?_
  refine TC.pr [0] ?_
  refine TC.heap (H' := [⟨g, 87, [Value.slice A m c, Value.int .i64 (k : Int), Value.int .i64 0, Value.int .i64 po], 4⟩]) (fun w hs => hs.take hl ne_nil) ?_
  iterate 8 refine gx ?_
  refine TL.call0 (Wants.none rfl) rfl enters50 rfl rfl (v := .int .i64 (k : Int)) (fun w hs => at_c g A m c k 0 po w (hs.has (⟨g, 87, [Value.slice A m c, Value.int .i64 (k : Int), Value.int .i64 0, Value.int .i64 po], 4⟩) (by simp))) ?_
  iterate 6 refine gx ?_
  refine TL.call (ι := Unit) (V := fun _ => .int .u64 (valB ((B.drop k).take 8))) (R := fun _ => True) (H' := fun _ => [⟨g, 87, [Value.slice A m c, Value.int .i64 (((k + 8) : Nat) : Int), Value.int .i64 0, Value.int .i64 po], 4⟩]) (Wants.none rfl) rfl enters47 rfl rfl (fun w hs => (uint_ok g A m c k 8 po (by omega) (by omega) w (hs.has (⟨g, 87, [Value.slice A m c, Value.int .i64 (k : Int), Value.int .i64 0, Value.int .i64 po], 4⟩) (by simp)) (by omega) (by omega) (by omega) B (hX.at_ hs (fun b hb hbX => (ne_cons (fun h => hbX g (by simp) h.symm) ne_nil))) hBB).mono fun e w' ⟨he, hw⟩ => ⟨(), he, trivial, St.turn (i := 0) (e := ⟨g, 87, [Value.slice A m c, Value.int .i64 (((k + 8) : Nat) : Int), Value.int .i64 0, Value.int .i64 po], 4⟩) hs rfl rfl hw⟩) (fun _ _ => ?_)
  iterate 7 refine gx ?_
  refine TL.gets (Wants.none rfl) rfl (Gets.isTrue (Gets.gtr rfl rfl rfl) (by omega)) ?_
  iterate 2 refine gx ?_
  refine TC.pr [0, 2, 3, 4, 10] ?_
  refine TC.yes rfl ?_
  iterate 4 refine gx ?_
  refine TL.call (ι := Unit) (V := fun _ => .tuple #[]) (R := fun _ => True) (H' := fun _ => [⟨g, 87, [Value.slice A m c, Value.int .i64 (((k + 8) : Nat) : Int), Value.int .i64 2, Value.int .i64 (k : Int)], 4⟩]) (Wants.none rfl) rfl enters49 rfl rfl (fun w hs => (fail_set g A m c (k + 8) po 2 (k : Int) (by decide) w (hs.has (⟨g, 87, [Value.slice A m c, Value.int .i64 (((k + 8) : Nat) : Int), Value.int .i64 0, Value.int .i64 po], 4⟩) (by simp))).mono fun e w' ⟨he, hw⟩ => ⟨(), he, trivial, St.turn (i := 0) (e := ⟨g, 87, [Value.slice A m c, Value.int .i64 (((k + 8) : Nat) : Int), Value.int .i64 2, Value.int .i64 (k : Int)], 4⟩) hs rfl rfl hw⟩) (fun _ _ => ?_)
  iterate 9 refine gx ?_
  exact TE.ret1 rfl rfl (fun w hs => ⟨rfl, hs⟩)

set_option maxRecDepth 100000 in
set_option maxHeartbeats 400000 in
theorem length_short (g : Nat) (A : Option Addr) (m c k : Nat) (po : Int) (hkn : m < k + 8) (w : World) (hl : Ent.lies ⟨g, 87, rdC A m c k 0 po, rdN⟩ w) (hk : k ≤ m) (hmc : m ≤ c) (hcm : c ≤ 9223372036854775807)  : Calls Try.prog 44 #[.pointer (some ⟨g, 0, none⟩)] w fun e w' => e = .returned (.int .i64 0) ∧ St w [⟨g, 87, rdC A m c k 8 (m : Int), rdN⟩] w' := by
  refine calls_from (args := [.pointer (some ⟨g, 0, none⟩)]) Try.func44 rfl Try.ntmps44 (by simp) ?_
  refine TC.pr [0] ?_
  refine TC.heap (H' := [⟨g, 87, [Value.slice A m c, Value.int .i64 (k : Int), Value.int .i64 0, Value.int .i64 po], 4⟩]) (fun w hs => hs.take hl ne_nil) ?_
  iterate 8 refine gx ?_
  refine TL.call0 (Wants.none rfl) rfl enters50 rfl rfl (v := .int .i64 (k : Int)) (fun w hs => at_c g A m c k 0 po w (hs.has (⟨g, 87, [Value.slice A m c, Value.int .i64 (k : Int), Value.int .i64 0, Value.int .i64 po], 4⟩) (by simp))) ?_
  iterate 6 refine gx ?_
  refine TL.call (ι := Unit) (V := fun _ => .int .u64 0) (R := fun _ => True) (H' := fun _ => [⟨g, 87, [Value.slice A m c, Value.int .i64 (k : Int), Value.int .i64 8, Value.int .i64 (m : Int)], 4⟩]) (Wants.none rfl) rfl enters47 rfl rfl (fun w hs => (uint_short g A m c k 8 po (by omega) (by omega) w (hs.has (⟨g, 87, [Value.slice A m c, Value.int .i64 (k : Int), Value.int .i64 0, Value.int .i64 po], 4⟩) (by simp)) (by omega) (by omega) (by omega)).mono fun e w' ⟨he, hw⟩ => ⟨(), he, trivial, St.turn (i := 0) (e := ⟨g, 87, [Value.slice A m c, Value.int .i64 (k : Int), Value.int .i64 8, Value.int .i64 (m : Int)], 4⟩) hs rfl rfl hw⟩) (fun _ _ => ?_)
  iterate 7 refine gx ?_
  refine TL.gets (Wants.none rfl) rfl (Gets.isFalse (Gets.gtr rfl rfl rfl) (by omega)) ?_
  iterate 2 refine gx ?_
  refine TC.pr [0, 2, 3, 4, 10] ?_
  refine TC.no rfl ?_
  iterate 5 refine gx ?_
  refine TL.gets (Wants.none rfl) rfl (Gets.conv rfl Try.underlying51 Try.underlying3 rfl (r := 0) (w64 rfl (by omega))) ?_
  iterate 4 refine gx ?_
  exact TE.ret1 rfl rfl (fun w hs => ⟨rfl, hs⟩)

set_option maxRecDepth 100000 in
set_option maxHeartbeats 400000 in
theorem length_f (g : Nat) (A : Option Addr) (m c k : Nat) (co po : Int) (hco : co ≠ 0) (w : World) (hl : Ent.lies ⟨g, 87, rdC A m c k co po, rdN⟩ w)  : Calls Try.prog 44 #[.pointer (some ⟨g, 0, none⟩)] w fun e w' => e = .returned (.int .i64 0) ∧ St w [] w' := by
  refine calls_from (args := [.pointer (some ⟨g, 0, none⟩)]) Try.func44 rfl Try.ntmps44 (by simp) ?_
  refine TC.pr [0] ?_
  refine TC.heap (H' := [⟨g, 87, [Value.slice A m c, Value.int .i64 (k : Int), Value.int .i64 co, Value.int .i64 po], 4⟩]) (fun w hs => hs.take hl ne_nil) ?_
  iterate 8 refine gx ?_
  refine TL.call0 (Wants.none rfl) rfl enters50 rfl rfl (v := .int .i64 (k : Int)) (fun w hs => at_c g A m c k co po w (hs.has (⟨g, 87, [Value.slice A m c, Value.int .i64 (k : Int), Value.int .i64 co, Value.int .i64 po], 4⟩) (by simp))) ?_
  iterate 6 refine gx ?_
  refine TL.call0 (Wants.none rfl) rfl enters47 rfl rfl (v := .int .u64 0) (fun w hs => uint_f g A m c k co po 8 hco w (hs.has (⟨g, 87, [Value.slice A m c, Value.int .i64 (k : Int), Value.int .i64 co, Value.int .i64 po], 4⟩) (by simp))) ?_
  iterate 7 refine gx ?_
  refine TL.gets (Wants.none rfl) rfl (Gets.isFalse (Gets.gtr rfl rfl rfl) (by omega)) ?_
  iterate 2 refine gx ?_
  refine TC.pr [0, 2, 3, 4, 10] ?_
  refine TC.no rfl ?_
  iterate 5 refine gx ?_
  refine TL.gets (Wants.none rfl) rfl (Gets.conv rfl Try.underlying51 Try.underlying3 rfl (r := 0) (w64 rfl (by omega))) ?_
  iterate 4 refine gx ?_
  exact TE.ret1 rfl rfl (fun w hs => ⟨rfl, (hs.same hl rfl)⟩)

set_option maxRecDepth 100000 in
set_option maxHeartbeats 400000 in
theorem length_nil (w : World) : Calls Try.prog 44 #[.pointer none] w fun e w' => e = .returned (.int .i64 0) ∧ St w [] w' := by
  refine calls_from (args := [.pointer none]) Try.func44 rfl Try.ntmps44 (by simp) ?_
  refine TC.pr [0] ?_
  iterate 8 refine gx ?_
  refine TL.call0 (Wants.none rfl) rfl enters50 rfl rfl (v := .int .i64 0) (fun w hs => at_nil w) ?_
  iterate 6 refine gx ?_
  refine TL.call0 (Wants.none rfl) rfl enters47 rfl rfl (v := .int .u64 0) (fun w hs => uint_nil 8 w) ?_
  iterate 7 refine gx ?_
  refine TL.gets (Wants.none rfl) rfl (Gets.isFalse (Gets.gtr rfl rfl rfl) (by omega)) ?_
  iterate 2 refine gx ?_
  refine TC.pr [0, 2, 3, 4, 10] ?_
  refine TC.no rfl ?_
  iterate 5 refine gx ?_
  refine TL.gets (Wants.none rfl) rfl (Gets.conv rfl Try.underlying51 Try.underlying3 rfl (r := 0) (w64 rfl (by omega))) ?_
  iterate 4 refine gx ?_
  exact TE.ret1 rfl rfl (fun w hs => ⟨rfl, hs⟩)
end Go.Proofs.Ytclmgfcdnokaiaa
/-
  The reader of layer 6: Bytes, Expect, New.
-/
namespace Go.Proofs.Ytclmgfcdnokaiaa
set_option linter.unusedVariables false
set_option linter.unusedSimpArgs false
open Go Go.RowKit
theorem enters59 : Enters Try.prog 59 := ⟨_, Try.func59, by kernel_rfl, by kernel_rfl⟩
theorem enters69 : Enters Try.prog 69 := ⟨_, Try.func69, by kernel_rfl, by kernel_rfl⟩
theorem zero28 : (Try.prog.info? 28).bind (·.zero) = some (.slice none 0 0) := by kernel_rfl
instance : Zer Try.prog 28 [Value.slice none 0 0] := ⟨⟨_, zero28, rfl⟩⟩
set_option maxRecDepth 100000 in
set_option maxHeartbeats 400000 in
theorem bytes_ok (g : Nat) (A : Option Addr) (m c k : Nat) (n : Nat) (po : Int) (hkn : k + n ≤ m) (w : World) (hl : Ent.lies ⟨g, 87, rdC A m c k 0 po, rdN⟩ w) (hk : k ≤ m) (hmc : m ≤ c) (hcm : c ≤ 9223372036854775807) (B : List Int) (hX : SrcX w [g] A m .u8 B) (hBB : Bytes B) (hm : m ≤ 1000000) : Calls Try.prog 62 #[.pointer (some ⟨g, 0, none⟩), .int .i64 (n : Int)] w fun e w' => ∃ v He, e = .returned v ∧ Own w.heap.size 5 .u8 v ((B.drop k).take n) He ∧ St w ((⟨g, 87, rdC A m c (k + n) 0 po, rdN⟩ : Ent) :: He) w' := by
  have hg : g < w.heap.size := hl.lt
  refine calls_from (args := [.pointer (some ⟨g, 0, none⟩), .int .i64 (n : Int)]) Try.func62 rfl Try.ntmps62 (by simp) ?_
  refine TC.pr [0, 1] ?_
  refine TC.heap (H' := [⟨g, 87, [Value.slice A m c, Value.int .i64 (k : Int), Value.int .i64 0, Value.int .i64 po], 4⟩]) (fun w hs => hs.take hl ne_nil) ?_
  iterate 9 refine gx ?_
  refine TL.gets (Wants.none rfl) rfl (Gets.isFalse (Gets.lss rfl rfl rfl) (by omega)) ?_
  iterate 2 refine gx ?_
  refine TC.no rfl ?_
  iterate 4 refine gx ?_
  refine TL.al (fun g1 hg1 => ?_)
  iterate 6 refine gx ?_
  refine TL.gets (Wants.none rfl) rfl (Gets.makeFunc rfl rfl rfl) ?_
  refine TL.call (ι := Value × List Ent) (V := fun _ => .tuple #[]) (R := fun y => Own w.heap.size 5 .u8 y.1 ((B.drop k).take n) y.2) (H' := fun y => [⟨g1, 28, [y.1], 1⟩, ⟨g, 87, [Value.slice A m c, Value.int .i64 (((k + n) : Nat) : Int), Value.int .i64 0, Value.int .i64 po], 4⟩] ++ y.2) (Wants.none rfl) rfl enters66 rfl rfl (fun w hs => (read_b g1 g A m c k n po B (by omega) (by omega) w (hs.has (⟨g, 87, [Value.slice A m c, Value.int .i64 (k : Int), Value.int .i64 0, Value.int .i64 po], 4⟩) (by simp)) (hs.has (⟨g1, 28, [Value.slice none 0 0], 1⟩) (by simp)) (by omega) (by omega) (by omega) (by omega) ((hX.more hg1).at_ hs (fun b hb hbX => (ne_cons (fun h => hbX g1 (by simp) h.symm) (ne_cons (fun h => hbX g (by simp) h.symm) ne_nil)))) hBB).mono fun e w' ⟨v, He, he, ho, hw⟩ => ⟨(v, He), he, own_mono ho hs.size, (St.turns (H := [⟨g1, 28, [Value.slice none 0 0], 1⟩, ⟨g, 87, [Value.slice A m c, Value.int .i64 (k : Int), Value.int .i64 0, Value.int .i64 po], 4⟩]) (F := []) (H' := [⟨g1, 28, [v], 1⟩, ⟨g, 87, [Value.slice A m c, Value.int .i64 (((k + n) : Nat) : Int), Value.int .i64 0, Value.int .i64 po], 4⟩]) (E := He) hs hw rfl ho.new).perm (List.Perm.of_eq (by rw [List.append_nil]))⟩) (fun y hR => ?_)
  obtain ⟨v, He⟩ := y
  dsimp only at hR ⊢
  iterate 2 refine gx ?_
  refine TC.pr [4, 5] ?_
  iterate 7 refine gx ?_
  exact TE.ret1 rfl rfl (fun w hs => ⟨v, He, rfl, hR, hs.drop (by assumption)⟩)

set_option maxRecDepth 100000 in
set_option maxHeartbeats 400000 in
theorem bytes_short (g : Nat) (A : Option Addr) (m c k : Nat) (n po : Int) (hkn : (m : Int) - (k : Int) < n) (w : World) (hl : Ent.lies ⟨g, 87, rdC A m c k 0 po, rdN⟩ w) (hk : k ≤ m) (hmc : m ≤ c) (hcm : c ≤ 9223372036854775807)  : Calls Try.prog 62 #[.pointer (some ⟨g, 0, none⟩), .int .i64 n] w fun e w' => e = .returned (.slice none 0 0) ∧ St w [⟨g, 87, rdC A m c k 8 (m : Int), rdN⟩] w' := by
  have hg : g < w.heap.size := hl.lt
  refine calls_from (args := [.pointer (some ⟨g, 0, none⟩), .int .i64 n]) Try.func62 rfl Try.ntmps62 (by simp) ?_
  refine TC.pr [0, 1] ?_
  refine TC.heap (H' := [⟨g, 87, [Value.slice A m c, Value.int .i64 (k : Int), Value.int .i64 0, Value.int .i64 po], 4⟩]) (fun w hs => hs.take hl ne_nil) ?_
  iterate 9 refine gx ?_
  refine TL.gets (Wants.none rfl) rfl (Gets.isFalse (Gets.lss rfl rfl rfl) (by omega)) ?_
  iterate 2 refine gx ?_
  refine TC.no rfl ?_
  iterate 4 refine gx ?_
  refine TL.al (fun g1 hg1 => ?_)
  iterate 6 refine gx ?_
  refine TL.gets (Wants.none rfl) rfl (Gets.makeFunc rfl rfl rfl) ?_
  refine TL.call (ι := Unit) (V := fun _ => .tuple #[]) (R := fun _ => True) (H' := fun _ => [⟨g1, 28, [Value.slice none 0 0], 1⟩, ⟨g, 87, [Value.slice A m c, Value.int .i64 (k : Int), Value.int .i64 8, Value.int .i64 (m : Int)], 4⟩]) (Wants.none rfl) rfl enters66 rfl rfl (fun w hs => (read_short g A m c k po n (.func (.func 70) #[] #[.pointer (some ⟨g1, 0, none⟩)]) (by omega) w (hs.has (⟨g, 87, [Value.slice A m c, Value.int .i64 (k : Int), Value.int .i64 0, Value.int .i64 po], 4⟩) (by simp)) (by omega) (by omega) (by omega)).mono fun e w' ⟨he, hw⟩ => ⟨(), he, trivial, St.turn (i := 1) (e := ⟨g, 87, [Value.slice A m c, Value.int .i64 (k : Int), Value.int .i64 8, Value.int .i64 (m : Int)], 4⟩) hs rfl rfl hw⟩) (fun _ _ => ?_)
  iterate 2 refine gx ?_
  refine TC.pr [4, 5] ?_
  iterate 7 refine gx ?_
  exact TE.ret1 rfl rfl (fun w hs => ⟨rfl, hs.drop (by assumption)⟩)

set_option maxRecDepth 100000 in
set_option maxHeartbeats 400000 in
theorem bytes_f (g : Nat) (A : Option Addr) (m c k : Nat) (co po n : Int) (hco : co ≠ 0) (w : World) (hl : Ent.lies ⟨g, 87, rdC A m c k co po, rdN⟩ w)  : Calls Try.prog 62 #[.pointer (some ⟨g, 0, none⟩), .int .i64 n] w fun e w' => e = .returned (.slice none 0 0) ∧ St w [] w' := by
  have hg : g < w.heap.size := hl.lt
  refine calls_from (args := [.pointer (some ⟨g, 0, none⟩), .int .i64 n]) Try.func62 rfl Try.ntmps62 (by simp) ?_
  refine TC.pr [0, 1] ?_
  refine TC.heap (H' := [⟨g, 87, [Value.slice A m c, Value.int .i64 (k : Int), Value.int .i64 co, Value.int .i64 po], 4⟩]) (fun w hs => hs.take hl ne_nil) ?_
  iterate 9 refine gx ?_
  by_cases c1 : n < 0
  · refine TL.gets (Wants.none rfl) rfl (Gets.isTrue (Gets.lss rfl rfl rfl) c1) ?_
    iterate 2 refine gx ?_
    refine TC.yes rfl ?_
    iterate 4 refine gx ?_
    refine TL.call0 (Wants.none rfl) rfl enters50 rfl rfl (v := .int .i64 (k : Int)) (fun w hs => at_c g A m c k co po w (hs.has (⟨g, 87, [Value.slice A m c, Value.int .i64 (k : Int), Value.int .i64 co, Value.int .i64 po], 4⟩) (by simp))) ?_
    refine TL.call0 (Wants.none rfl) rfl enters49 rfl rfl (v := .tuple #[]) (fun w hs => fail_dead g A m c k co po 2 (k : Int) hco w (hs.has (⟨g, 87, [Value.slice A m c, Value.int .i64 (k : Int), Value.int .i64 co, Value.int .i64 po], 4⟩) (by simp))) ?_
    iterate 2 refine gx ?_
    refine TC.pr [0, 1, 4] ?_
    iterate 7 refine gx ?_
    exact TE.ret1 rfl rfl (fun w hs => ⟨rfl, (hs.same hl rfl)⟩)
  · refine TL.gets (Wants.none rfl) rfl (Gets.isFalse (Gets.lss rfl rfl rfl) c1) ?_
    iterate 2 refine gx ?_
    refine TC.no rfl ?_
    iterate 4 refine gx ?_
    refine TL.al (fun g1 hg1 => ?_)
    iterate 6 refine gx ?_
    refine TL.gets (Wants.none rfl) rfl (Gets.makeFunc rfl rfl rfl) ?_
    refine TL.call0 (Wants.none rfl) rfl enters66 rfl rfl (v := .tuple #[]) (fun w hs => read_dead g A m c k co po n (.func (.func 70) #[] #[.pointer (some ⟨g1, 0, none⟩)]) hco w (hs.has (⟨g, 87, [Value.slice A m c, Value.int .i64 (k : Int), Value.int .i64 co, Value.int .i64 po], 4⟩) (by simp))) ?_
    iterate 2 refine gx ?_
    refine TC.pr [4, 5] ?_
    iterate 7 refine gx ?_
    exact TE.ret1 rfl rfl (fun w hs => ⟨rfl, ((hs.drop (by assumption)).same hl rfl)⟩)

set_option maxRecDepth 100000 in
set_option maxHeartbeats 400000 in
theorem wequal_c (PA PB : List Int) (hBA : Bytes PA) (hBB : Bytes PB) (A A2 : Option Addr) (m c m2 c2 : Nat) (w : World) (hsA : Src w A m .u8 PA) (hsB : Src w A2 m2 .u8 PB) : Calls Try.prog 69 #[.slice A m c, .slice A2 m2 c2] w fun e w' => e = .returned (.bool (decide (PA = PB))) ∧ St w [] w' := by
  refine calls_from (args := [.slice A m c, .slice A2 m2 c2]) Try.func69 rfl Try.ntmps69 (by simp) ?_
  refine TC.pr [0, 1] ?_
  iterate 8 refine gx ?_
  refine TL.gets (Wants.none rfl) rfl (Gets.b2s rfl Try.underlying28 Try.underlying9 Try.underlying5 rfl (fun w hs => (hsA.at_ hs (fun b hb => ne_nil)))) ?_
  refine gx ?_
  refine TL.gets (Wants.none rfl) rfl (Gets.b2s rfl Try.underlying28 Try.underlying9 Try.underlying5 rfl (fun w hs => (hsB.at_ hs (fun b hb => ne_nil)))) ?_
  refine TL.gets (Wants.none rfl) rfl (Gets.bytesEq rfl rfl rfl hBA hBB) ?_
  iterate 4 refine gx ?_
  exact TE.ret1 rfl rfl (fun w hs => ⟨rfl, hs⟩)

set_option maxRecDepth 100000 in
set_option maxHeartbeats 400000 in
theorem hpre_c (P D : List Int) (hBP : Bytes P) (hBD : Bytes D) (A A2 : Option Addr) (m c m2 c2 : Nat) (w : World) (hsP : Src w A m .u8 P) (hsD : Src w A2 m2 .u8 D) (hmc : m ≤ c) (hcm : c ≤ 9223372036854775807) (hcm2 : m2 ≤ 9223372036854775807) : Calls Try.prog 59 #[.slice A m c, .slice A2 m2 c2] w fun e w' => e = .returned (.bool (decide (P.take m2 = D))) ∧ St w [] w' := by
  refine calls_from (args := [.slice A m c, .slice A2 m2 c2]) Try.func59 rfl Try.ntmps59 (by simp) ?_
  refine TC.pr [0, 1] ?_
  iterate 11 refine gx ?_
  by_cases c1 : (m2 : Int) ≤ (m : Int)
  · refine TL.gets (Wants.none rfl) rfl (Gets.isTrue (Gets.geq rfl rfl rfl) c1) ?_
    iterate 4 refine gx ?_
    refine TL.gets (Wants.yes rfl rfl rfl) rfl (Gets.sliceS rfl Try.underlying28 size5 rfl bnd.dflt (bnd.at_ (l := m2) rfl (by omega)) (by omega) (by omega) (cutA_zero _ _ _) (ln := m2) (cp := c) (by omega) (by omega)) ?_
    refine gx ?_
    refine TL.call0 (Wants.yes rfl rfl rfl) rfl enters69 rfl rfl (v := .bool (decide (P.take m2 = D))) (fun w hs => wequal_c (P.take m2) D (hBP.take m2) hBD A A2 m2 c m2 c2 w ((hsP.at_ hs (fun b hb => ne_nil)).head (by omega)) (hsD.at_ hs (fun b hb => ne_nil))) ?_
    iterate 5 refine gx ?_
    exact TE.ret1 rfl rfl (fun w hs => ⟨rfl, hs⟩)
  · refine TL.gets (Wants.none rfl) rfl (Gets.isFalse (Gets.geq rfl rfl rfl) c1) ?_
    iterate 12 refine gx ?_
    exact TE.ret1 rfl rfl (fun w hs => ⟨by rw [decide_eq_false (fun h => by have h2 := congrArg List.length h; rw [List.length_take, hsP.1, hsD.1] at h2; omega)], hs⟩)

set_option maxRecDepth 100000 in
set_option maxHeartbeats 400000 in
theorem expect_ok (g : Nat) (A : Option Addr) (m c k : Nat) (po d : Int) (w : World) (hl : Ent.lies ⟨g, 87, rdC A m c k 0 po, rdN⟩ w) (hk : k ≤ m) (hmc : m ≤ c) (hcm : c ≤ 9223372036854775807) (B : List Int) (hX : SrcX w [g] A m .u8 B) (hBB : Bytes B) (D : List Int) (Ad : Option Addr) (md cd : Nat) (hXD : SrcX w [g] Ad md .u8 D) (hBD : Bytes D) (hmd : md ≤ cd) (hcd : cd ≤ 9223372036854775807) (h1 : (B.drop k).take md = D) : Calls Try.prog 43 #[.pointer (some ⟨g, 0, none⟩), .slice Ad md cd, .int .i64 d] w fun e w' => e = .returned (.bool true) ∧ St w [⟨g, 87, rdC A m c (k + md) 0 po, rdN⟩] w' := by
  have hl1 : md ≤ m - k := by have h2 := congrArg List.length h1; rw [List.length_take, List.length_drop, hXD.1, hX.1] at h2; omega
  refine calls_from (args := [.pointer (some ⟨g, 0, none⟩), .slice Ad md cd, .int .i64 d]) Try.func43 rfl Try.ntmps43 (by simp) ?_
  refine TC.pr [0, 1, 2] ?_
  refine TC.heap (H' := [⟨g, 87, [Value.slice A m c, Value.int .i64 (k : Int), Value.int .i64 0, Value.int .i64 po], 4⟩]) (fun w hs => hs.take hl ne_nil) ?_
  iterate 9 refine gx ?_
  refine TL.call0 (Wants.none rfl) rfl enters57 rfl rfl (v := .bool true) (fun w hs => calls_yes rfl (ready_c g A m c k 0 po w (hs.has (⟨g, 87, [Value.slice A m c, Value.int .i64 (k : Int), Value.int .i64 0, Value.int .i64 po], 4⟩) (by simp)))) ?_
  iterate 3 refine gx ?_
  refine TC.no rfl ?_
  iterate 5 refine gx ?_
  refine TL.gets (Wants.none rfl) rfl (Gets.nilCheck rfl rfl) ?_
  refine gx ?_
  refine TL.call0 (Wants.none rfl) rfl enters58 rfl rfl (v := .slice (cutA A c k 1) (m - k) (c - k)) (fun w hs => left_c g A m c k 0 po w (hs.has (⟨g, 87, [Value.slice A m c, Value.int .i64 (k : Int), Value.int .i64 0, Value.int .i64 po], 4⟩) (by simp)) (by omega) (by omega) (by omega)) ?_
  iterate 3 refine gx ?_
  refine TC.pr [0, 1, 2, 6, 7] ?_
  iterate 6 refine gx ?_
  refine TL.call0 (Wants.none rfl) rfl enters59 rfl rfl (v := .bool true) (fun w hs => (hpre_c (B.drop k) D (hBB.drop k) hBD (cutA A c k 1) Ad (m - k) (c - k) md cd w (((hX.at_ hs (fun b hb hbX => (ne_cons (fun h => hbX g (by simp) h.symm) ne_nil))).drop (by omega) (by omega)).src) ((hXD.at_ hs (fun b hb hbX => (ne_cons (fun h => hbX g (by simp) h.symm) ne_nil))).src) (by omega) (by omega) (by omega)).mono fun e w' h => by rw [decide_eq_true (p := (B.drop k).take md = D) h1] at h; exact h) ?_
  iterate 3 refine gx ?_
  refine TC.pr [0, 1, 2, 6, 7, 23] ?_
  refine TC.yes rfl ?_
  iterate 3 refine gx ?_
  refine TL.gets (Wants.none rfl) rfl (Gets.nilCheck rfl rfl) ?_
  iterate 3 refine gx ?_
  refine TL.call (ι := Unit) (V := fun _ => .slice (cutA A c k 1) md (c - k)) (R := fun _ => True) (H' := fun _ => [⟨g, 87, [Value.slice A m c, Value.int .i64 (((k + md) : Nat) : Int), Value.int .i64 0, Value.int .i64 po], 4⟩]) (Wants.none rfl) rfl enters60 rfl rfl (fun w hs => (pass_c g A m c k md (by omega) 0 po w (hs.has (⟨g, 87, [Value.slice A m c, Value.int .i64 (k : Int), Value.int .i64 0, Value.int .i64 po], 4⟩) (by simp)) (by omega) (by omega) (by omega)).mono fun e w' ⟨he, hw⟩ => ⟨(), he, trivial, St.turn (i := 0) (e := ⟨g, 87, [Value.slice A m c, Value.int .i64 (((k + md) : Nat) : Int), Value.int .i64 0, Value.int .i64 po], 4⟩) hs rfl rfl hw⟩) (fun _ _ => ?_)
  iterate 2 refine gx ?_
  refine TC.pr [6] ?_
  iterate 8 refine gx ?_
  exact TE.ret1 rfl rfl (fun w hs => ⟨rfl, hs⟩)

set_option maxRecDepth 100000 in
set_option maxHeartbeats 400000 in
theorem expect_short (g : Nat) (A : Option Addr) (m c k : Nat) (po d : Int) (w : World) (hl : Ent.lies ⟨g, 87, rdC A m c k 0 po, rdN⟩ w) (hk : k ≤ m) (hmc : m ≤ c) (hcm : c ≤ 9223372036854775807) (B : List Int) (hX : SrcX w [g] A m .u8 B) (hBB : Bytes B) (D : List Int) (Ad : Option Addr) (md cd : Nat) (hXD : SrcX w [g] Ad md .u8 D) (hBD : Bytes D) (hmd : md ≤ cd) (hcd : cd ≤ 9223372036854775807) (h1 : ¬ ((B.drop k).take md = D)) (h2 : D.take (m - k) = B.drop k) : Calls Try.prog 43 #[.pointer (some ⟨g, 0, none⟩), .slice Ad md cd, .int .i64 d] w fun e w' => e = .returned (.bool false) ∧ St w [⟨g, 87, rdC A m c k 8 (m : Int), rdN⟩] w' := by
  refine calls_from (args := [.pointer (some ⟨g, 0, none⟩), .slice Ad md cd, .int .i64 d]) Try.func43 rfl Try.ntmps43 (by simp) ?_
  refine TC.pr [0, 1, 2] ?_
  refine TC.heap (H' := [⟨g, 87, [Value.slice A m c, Value.int .i64 (k : Int), Value.int .i64 0, Value.int .i64 po], 4⟩]) (fun w hs => hs.take hl ne_nil) ?_
  iterate 9 refine gx ?_
  refine TL.call0 (Wants.none rfl) rfl enters57 rfl rfl (v := .bool true) (fun w hs => calls_yes rfl (ready_c g A m c k 0 po w (hs.has (⟨g, 87, [Value.slice A m c, Value.int .i64 (k : Int), Value.int .i64 0, Value.int .i64 po], 4⟩) (by simp)))) ?_
  iterate 3 refine gx ?_
  refine TC.no rfl ?_
  iterate 5 refine gx ?_
  refine TL.gets (Wants.none rfl) rfl (Gets.nilCheck rfl rfl) ?_
  refine gx ?_
  refine TL.call0 (Wants.none rfl) rfl enters58 rfl rfl (v := .slice (cutA A c k 1) (m - k) (c - k)) (fun w hs => left_c g A m c k 0 po w (hs.has (⟨g, 87, [Value.slice A m c, Value.int .i64 (k : Int), Value.int .i64 0, Value.int .i64 po], 4⟩) (by simp)) (by omega) (by omega) (by omega)) ?_
  iterate 3 refine gx ?_
  refine TC.pr [0, 1, 2, 6, 7] ?_
  iterate 6 refine gx ?_
  refine TL.call0 (Wants.none rfl) rfl enters59 rfl rfl (v := .bool false) (fun w hs => (hpre_c (B.drop k) D (hBB.drop k) hBD (cutA A c k 1) Ad (m - k) (c - k) md cd w (((hX.at_ hs (fun b hb hbX => (ne_cons (fun h => hbX g (by simp) h.symm) ne_nil))).drop (by omega) (by omega)).src) ((hXD.at_ hs (fun b hb hbX => (ne_cons (fun h => hbX g (by simp) h.symm) ne_nil))).src) (by omega) (by omega) (by omega)).mono fun e w' h => by rw [decide_eq_false (p := (B.drop k).take md = D) h1] at h; exact h) ?_
  iterate 3 refine gx ?_
  refine TC.pr [0, 1, 2, 6, 7, 23] ?_
  refine TC.no rfl ?_
  iterate 4 refine gx ?_
  refine TL.call0 (Wants.none rfl) rfl enters59 rfl rfl (v := .bool true) (fun w hs => (hpre_c D (B.drop k) hBD (hBB.drop k) Ad (cutA A c k 1) md cd (m - k) (c - k) w ((hXD.at_ hs (fun b hb hbX => (ne_cons (fun h => hbX g (by simp) h.symm) ne_nil))).src) (((hX.at_ hs (fun b hb hbX => (ne_cons (fun h => hbX g (by simp) h.symm) ne_nil))).drop (by omega) (by omega)).src) (by omega) (by omega) (by omega)).mono fun e w' h => by rw [decide_eq_true (p := D.take (m - k) = B.drop k) h2] at h; exact h) ?_
  iterate 3 refine gx ?_
  refine TC.pr [0, 2, 6, 33] ?_
  refine TC.yes rfl ?_
  iterate 3 refine gx ?_
  refine TL.gets (Wants.none rfl) rfl (Gets.nilCheck rfl rfl) ?_
  refine gx ?_
  refine TL.call0 (Wants.none rfl) rfl enters61 rfl rfl (v := .int .i64 (m : Int)) (fun w hs => end_c g A m c k 0 po w (hs.has (⟨g, 87, [Value.slice A m c, Value.int .i64 (k : Int), Value.int .i64 0, Value.int .i64 po], 4⟩) (by simp)) (by omega) (by omega) (by omega)) ?_
  refine TL.call (ι := Unit) (V := fun _ => .tuple #[]) (R := fun _ => True) (H' := fun _ => [⟨g, 87, [Value.slice A m c, Value.int .i64 (k : Int), Value.int .i64 8, Value.int .i64 (m : Int)], 4⟩]) (Wants.none rfl) rfl enters49 rfl rfl (fun w hs => (fail_set g A m c k po 8 (m : Int) (by decide) w (hs.has (⟨g, 87, [Value.slice A m c, Value.int .i64 (k : Int), Value.int .i64 0, Value.int .i64 po], 4⟩) (by simp))).mono fun e w' ⟨he, hw⟩ => ⟨(), he, trivial, St.turn (i := 0) (e := ⟨g, 87, [Value.slice A m c, Value.int .i64 (k : Int), Value.int .i64 8, Value.int .i64 (m : Int)], 4⟩) hs rfl rfl hw⟩) (fun _ _ => ?_)
  iterate 3 refine gx ?_
  refine TC.pr [6] ?_
  iterate 6 refine gx ?_
  exact TE.ret1 rfl rfl (fun w hs => ⟨rfl, hs⟩)

set_option maxRecDepth 100000 in
set_option maxHeartbeats 400000 in
theorem expect_bad (g : Nat) (A : Option Addr) (m c k : Nat) (po d : Int) (hd : d ≠ 0) (w : World) (hl : Ent.lies ⟨g, 87, rdC A m c k 0 po, rdN⟩ w) (hk : k ≤ m) (hmc : m ≤ c) (hcm : c ≤ 9223372036854775807) (B : List Int) (hX : SrcX w [g] A m .u8 B) (hBB : Bytes B) (D : List Int) (Ad : Option Addr) (md cd : Nat) (hXD : SrcX w [g] Ad md .u8 D) (hBD : Bytes D) (hmd : md ≤ cd) (hcd : cd ≤ 9223372036854775807) (h1 : ¬ ((B.drop k).take md = D)) (h2 : ¬ (D.take (m - k) = B.drop k)) : Calls Try.prog 43 #[.pointer (some ⟨g, 0, none⟩), .slice Ad md cd, .int .i64 d] w fun e w' => e = .returned (.bool false) ∧ St w [⟨g, 87, rdC A m c k d (k : Int), rdN⟩] w' := by
  refine calls_from (args := [.pointer (some ⟨g, 0, none⟩), .slice Ad md cd, .int .i64 d]) Try.func43 rfl Try.ntmps43 (by simp) ?_
  refine TC.pr [0, 1, 2] ?_
  refine TC.heap (H' := [⟨g, 87, [Value.slice A m c, Value.int .i64 (k : Int), Value.int .i64 0, Value.int .i64 po], 4⟩]) (fun w hs => hs.take hl ne_nil) ?_
  iterate 9 refine gx ?_
  refine TL.call0 (Wants.none rfl) rfl enters57 rfl rfl (v := .bool true) (fun w hs => calls_yes rfl (ready_c g A m c k 0 po w (hs.has (⟨g, 87, [Value.slice A m c, Value.int .i64 (k : Int), Value.int .i64 0, Value.int .i64 po], 4⟩) (by simp)))) ?_
  iterate 3 refine gx ?_
  refine TC.no rfl ?_
  iterate 5 refine gx ?_
  refine TL.gets (Wants.none rfl) rfl (Gets.nilCheck rfl rfl) ?_
  refine gx ?_
  refine TL.call0 (Wants.none rfl) rfl enters58 rfl rfl (v := .slice (cutA A c k 1) (m - k) (c - k)) (fun w hs => left_c g A m c k 0 po w (hs.has (⟨g, 87, [Value.slice A m c, Value.int .i64 (k : Int), Value.int .i64 0, Value.int .i64 po], 4⟩) (by simp)) (by omega) (by omega) (by omega)) ?_
  iterate 3 refine gx ?_
  refine TC.pr [0, 1, 2, 6, 7] ?_
  iterate 6 refine gx ?_
  refine TL.call0 (Wants.none rfl) rfl enters59 rfl rfl (v := .bool false) (fun w hs => (hpre_c (B.drop k) D (hBB.drop k) hBD (cutA A c k 1) Ad (m - k) (c - k) md cd w (((hX.at_ hs (fun b hb hbX => (ne_cons (fun h => hbX g (by simp) h.symm) ne_nil))).drop (by omega) (by omega)).src) ((hXD.at_ hs (fun b hb hbX => (ne_cons (fun h => hbX g (by simp) h.symm) ne_nil))).src) (by omega) (by omega) (by omega)).mono fun e w' h => by rw [decide_eq_false (p := (B.drop k).take md = D) h1] at h; exact h) ?_
  iterate 3 refine gx ?_
  refine TC.pr [0, 1, 2, 6, 7, 23] ?_
  refine TC.no rfl ?_
  iterate 4 refine gx ?_
  refine TL.call0 (Wants.none rfl) rfl enters59 rfl rfl (v := .bool false) (fun w hs => (hpre_c D (B.drop k) hBD (hBB.drop k) Ad (cutA A c k 1) md cd (m - k) (c - k) w ((hXD.at_ hs (fun b hb hbX => (ne_cons (fun h => hbX g (by simp) h.symm) ne_nil))).src) (((hX.at_ hs (fun b hb hbX => (ne_cons (fun h => hbX g (by simp) h.symm) ne_nil))).drop (by omega) (by omega)).src) (by omega) (by omega) (by omega)).mono fun e w' h => by rw [decide_eq_false (p := D.take (m - k) = B.drop k) h2] at h; exact h) ?_
  iterate 3 refine gx ?_
  refine TC.pr [0, 2, 6, 33] ?_
  refine TC.no rfl ?_
  iterate 4 refine gx ?_
  refine TL.gets (Wants.none rfl) rfl (Gets.nilCheck rfl rfl) ?_
  iterate 3 refine gx ?_
  refine TL.call (ι := Unit) (V := fun _ => .tuple #[]) (R := fun _ => True) (H' := fun _ => [⟨g, 87, [Value.slice A m c, Value.int .i64 (k : Int), Value.int .i64 d, Value.int .i64 (k : Int)], 4⟩]) (Wants.none rfl) rfl enters49 rfl rfl (fun w hs => (fail_set g A m c k po d (k : Int) hd w (hs.has (⟨g, 87, [Value.slice A m c, Value.int .i64 (k : Int), Value.int .i64 0, Value.int .i64 po], 4⟩) (by simp))).mono fun e w' ⟨he, hw⟩ => ⟨(), he, trivial, St.turn (i := 0) (e := ⟨g, 87, [Value.slice A m c, Value.int .i64 (k : Int), Value.int .i64 d, Value.int .i64 (k : Int)], 4⟩) hs rfl rfl hw⟩) (fun _ _ => ?_)
  iterate 3 refine gx ?_
  refine TC.pr [6] ?_
  iterate 6 refine gx ?_
  exact TE.ret1 rfl rfl (fun w hs => ⟨rfl, hs⟩)

set_option maxRecDepth 100000 in
set_option maxHeartbeats 400000 in
theorem expect_f (g : Nat) (A : Option Addr) (m c k : Nat) (co po d : Int) (Ad : Option Addr) (md cd : Nat) (hco : co ≠ 0) (w : World) (hl : Ent.lies ⟨g, 87, rdC A m c k co po, rdN⟩ w)  : Calls Try.prog 43 #[.pointer (some ⟨g, 0, none⟩), .slice Ad md cd, .int .i64 d] w fun e w' => e = .returned (.bool false) ∧ St w [] w' := by
  refine calls_from (args := [.pointer (some ⟨g, 0, none⟩), .slice Ad md cd, .int .i64 d]) Try.func43 rfl Try.ntmps43 (by simp) ?_
  refine TC.pr [0, 1, 2] ?_
  refine TC.heap (H' := [⟨g, 87, [Value.slice A m c, Value.int .i64 (k : Int), Value.int .i64 co, Value.int .i64 po], 4⟩]) (fun w hs => hs.take hl ne_nil) ?_
  iterate 9 refine gx ?_
  refine TL.call0 (Wants.none rfl) rfl enters57 rfl rfl (v := .bool false) (fun w hs => calls_no hco (ready_c g A m c k co po w (hs.has (⟨g, 87, [Value.slice A m c, Value.int .i64 (k : Int), Value.int .i64 co, Value.int .i64 po], 4⟩) (by simp)))) ?_
  iterate 3 refine gx ?_
  refine TC.yes rfl ?_
  iterate 7 refine gx ?_
  exact TE.ret1 rfl rfl (fun w hs => ⟨rfl, (hs.same hl rfl)⟩)

set_option maxRecDepth 100000 in
set_option maxHeartbeats 400000 in
theorem new_raw (B : List Int) (A : Option Addr) (c : Nat) (w : World) (hsB : Src w A B.length .u8 B) (hmc : B.length ≤ c) (hm : B.length ≤ 1000000) : Calls Try.prog 26 #[.slice A B.length c] w fun e w' => ∃ (g : Nat) (A' : Option Addr) (c' : Nat) (He : List Ent), e = .returned (.pointer (some ⟨g, 0, none⟩)) ∧ Own w.heap.size 5 .u8 (.slice A' B.length c') B He ∧ w.heap.size ≤ g ∧ St w ((⟨g, 87, rdC A' B.length c' 0 0 0, rdN⟩ : Ent) :: He) w' := by
  refine calls_from (args := [.slice A B.length c]) Try.func26 rfl Try.ntmps26 (by simp) ?_
  refine TC.pr [0] ?_
  iterate 8 refine gx ?_
  refine TL.call (ι := Value × List Ent) (V := fun yl => yl.1) (R := fun yl => Own w.heap.size 5 .u8 yl.1 B yl.2) (H' := fun yl => [] ++ yl.2) (Wants.none rfl) rfl enters42 rfl rfl (fun w hs => (wclone_c B A B.length c w (hsB.at_ hs (fun b hb => ne_nil)) (by omega) (by omega)).mono fun e w' ⟨v, He, he, ho, hw⟩ => ⟨(v, He), he, own_mono ho hs.size, st_call hs hw ho.new⟩) (fun yl hOl => ?_)
  obtain ⟨vl, Hl⟩ := yl
  dsimp only at hOl ⊢
  obtain ⟨Al, cl, hvl, hcl, hdl⟩ := hOl.form
  subst hvl
  refine TL.gets (Wants.none rfl) rfl (Gets.build rfl (vs := [(0, Value.slice Al B.length cl)]) rfl (fun w => by first | rfl | kernel_rfl) (v := .agg ([Value.slice Al B.length cl, Value.int .i64 0]).toArray)) ?_
  refine TL.gets (Wants.none rfl) rfl (Gets.build rfl (vs := [(0, Value.agg ([Value.slice Al B.length cl, Value.int .i64 0]).toArray)]) rfl (fun w => by first | rfl | kernel_rfl) (v := .agg ([Value.slice Al B.length cl, Value.int .i64 0, Value.int .i64 0, Value.int .i64 0]).toArray)) ?_
  refine TL.bxA (fun g1 hg1 => ?_)
  iterate 4 refine gx ?_
  exact TE.ret1 rfl rfl (fun w hs => ⟨g1, Al, cl, Hl, rfl, hOl, by assumption, hs⟩)

theorem new_c (B : List Int) (A : Option Addr) (m c : Nat) (w : World) (hsB : Src w A m .u8 B) (hmc : m ≤ c) (hm : m ≤ 1000000) : Calls Try.prog 26 #[.slice A m c] w fun e w' => ∃ (g : Nat) (A' : Option Addr) (c' : Nat) (He : List Ent), e = .returned (.pointer (some ⟨g, 0, none⟩)) ∧ Own w.heap.size 5 .u8 (.slice A' m c') B He ∧ w.heap.size ≤ g ∧ St w ((⟨g, 87, rdC A' m c' 0 0 0, rdN⟩ : Ent) :: He) w' := by
  have h := hsB.1
  subst h
  exact new_raw B A c w hsB hmc hm
end Go.Proofs.Ytclmgfcdnokaiaa
/-
  The code's reader of layer 6, in states.
-/
namespace Go.Proofs.Ytclmgfcdnokaiaa
set_option linter.unusedVariables false
set_option linter.unusedSimpArgs false
open Go Go.RowKit

theorem wfail_s (g : Nat) (A : Option Addr) (m c : Nat) (s : RS) (d n : Int) (hd : d ≠ 0) (w : World) (hl : Ent.lies ⟨g, 87, rdC A m c s.k s.co s.po, rdN⟩ w) : Calls Try.prog 49 #[.pointer (some ⟨g, 0, none⟩), .int .i64 d, .int .i64 n] w fun e w' => e = .returned (.tuple #[]) ∧ St w [⟨g, 87, rdC A m c (rFail s d n).k (rFail s d n).co (rFail s d n).po, rdN⟩] w' := by
  obtain ⟨k, co, po⟩ := s
  unfold rFail
  dsimp only at hl ⊢
  by_cases h : co = 0
  · subst h
    rw [if_pos ⟨rfl, hd⟩]
    exact fail_set g A m c k po d n hd w hl
  · rw [if_neg (fun x => h x.1)]
    exact (fail_dead g A m c k co po d n h w hl).mono fun e w' ⟨he, hw⟩ => ⟨he, hw.take hl ne_nil⟩

theorem wuint_s (g : Nat) (A : Option Addr) (m c : Nat) (s : RS) (n : Nat) (hn : 1 ≤ n ∧ n ≤ 8) (w : World) (hl : Ent.lies ⟨g, 87, rdC A m c s.k s.co s.po, rdN⟩ w) (hk : s.k ≤ m) (hmc : m ≤ c) (hcm : c ≤ 9223372036854775807) (B : List Int) (hX : SrcX w [g] A m .u8 B) (hBB : Bytes B) : Calls Try.prog 47 #[.pointer (some ⟨g, 0, none⟩), .int .i64 (n : Int)] w fun e w' => e = .returned (.int .u64 (rUint B s n).1) ∧ St w [⟨g, 87, rdC A m c (rUint B s n).2.k (rUint B s n).2.co (rUint B s n).2.po, rdN⟩] w' := by
  obtain ⟨k, co, po⟩ := s
  have hBm := hX.1
  unfold rUint
  dsimp only at hl hk ⊢
  by_cases h : co = 0
  · subst h
    rw [if_pos rfl]
    by_cases h1 : B.length < k + n
    · rw [if_pos h1]
      dsimp only
      rw [hBm]
      exact uint_short g A m c k (n : Int) po (by omega) (by omega) w hl hk hmc hcm
    · rw [if_neg h1]; exact uint_ok g A m c k n po hn (by omega) w hl hk hmc hcm B hX hBB
  · rw [if_neg h]
    exact (uint_f g A m c k co po n h w hl).mono fun e w' ⟨he, hw⟩ => ⟨he, hw.take hl ne_nil⟩

theorem wlen_s (g : Nat) (A : Option Addr) (m c : Nat) (s : RS) (w : World) (hl : Ent.lies ⟨g, 87, rdC A m c s.k s.co s.po, rdN⟩ w) (hk : s.k ≤ m) (hmc : m ≤ c) (hcm : c ≤ 9223372036854775807) (B : List Int) (hX : SrcX w [g] A m .u8 B) (hBB : Bytes B) : Calls Try.prog 44 #[.pointer (some ⟨g, 0, none⟩)] w fun e w' => e = .returned (.int .i64 (rLen B s).1) ∧ St w [⟨g, 87, rdC A m c (rLen B s).2.k (rLen B s).2.co (rLen B s).2.po, rdN⟩] w' := by
  obtain ⟨k, co, po⟩ := s
  have hBm := hX.1
  unfold rLen rUint
  dsimp only at hl hk ⊢
  by_cases h : co = 0
  · subst h
    rw [if_pos rfl]
    by_cases h1 : B.length < k + 8
    · rw [if_pos h1, if_neg (show ¬ (4611686018427387903 : Int) < 0 by decide)]
      dsimp only
      rw [hBm]
      exact length_short g A m c k po (by omega) w hl hk hmc hcm
    · rw [if_neg h1]
      by_cases h2 : 4611686018427387903 < valB ((B.drop k).take 8)
      · rw [if_pos h2]
        unfold rFail
        rw [if_pos ⟨rfl, by decide⟩]
        exact length_big g A m c k po (by omega) w hl hk hmc hcm B hX hBB h2
      · rw [if_neg h2]
        exact length_ok g A m c k po (by omega) w hl hk hmc hcm B hX hBB (by omega)
  · rw [if_neg h, if_neg (show ¬ (4611686018427387903 : Int) < 0 by decide)]
    exact (length_f g A m c k co po h w hl).mono fun e w' ⟨he, hw⟩ => ⟨he, hw.take hl ne_nil⟩

theorem wbytes_s (g : Nat) (A : Option Addr) (m c : Nat) (s : RS) (n : Int) (hn : 0 ≤ n) (w : World) (hl : Ent.lies ⟨g, 87, rdC A m c s.k s.co s.po, rdN⟩ w) (hk : s.k ≤ m) (hmc : m ≤ c) (hcm : c ≤ 9223372036854775807) (B : List Int) (hX : SrcX w [g] A m .u8 B) (hBB : Bytes B) (hm : m ≤ 1000000) : Calls Try.prog 62 #[.pointer (some ⟨g, 0, none⟩), .int .i64 n] w fun e w' => ∃ v He, e = .returned v ∧ Own w.heap.size 5 .u8 v (rBytes B s n.toNat).1 He ∧ St w ((⟨g, 87, rdC A m c (rBytes B s n.toNat).2.k (rBytes B s n.toNat).2.co (rBytes B s n.toNat).2.po, rdN⟩ : Ent) :: He) w' := by
  obtain ⟨k, co, po⟩ := s
  have hBm := hX.1
  obtain ⟨j, rfl⟩ : ∃ j : Nat, n = (j : Int) := ⟨n.toNat, by omega⟩
  unfold rBytes
  rw [Int.toNat_natCast]
  dsimp only at hl hk ⊢
  by_cases h : co = 0
  · subst h
    rw [if_pos rfl]
    by_cases h1 : B.length < k + j
    · rw [if_pos h1]
      dsimp only
      rw [hBm]
      exact (bytes_short g A m c k (j : Int) po (by omega) w hl hk hmc hcm).mono fun e w' ⟨he, hw⟩ => ⟨_, [], he, Own.nil _ _ _, hw⟩
    · rw [if_neg h1]; exact bytes_ok g A m c k j po (by omega) w hl hk hmc hcm B hX hBB hm
  · rw [if_neg h]
    exact (bytes_f g A m c k co po j h w hl).mono fun e w' ⟨he, hw⟩ => ⟨_, [], he, Own.nil _ _ _, hw.take hl ne_nil⟩

theorem wexp_s (g : Nat) (A : Option Addr) (m c : Nat) (s : RS) (d : Int) (hd : d ≠ 0) (w : World) (hl : Ent.lies ⟨g, 87, rdC A m c s.k s.co s.po, rdN⟩ w) (hk : s.k ≤ m) (hmc : m ≤ c) (hcm : c ≤ 9223372036854775807) (B : List Int) (hX : SrcX w [g] A m .u8 B) (hBB : Bytes B) (D : List Int) (Ad : Option Addr) (md cd : Nat) (hXD : SrcX w [g] Ad md .u8 D) (hBD : Bytes D) (hmd : md ≤ cd) (hcd : cd ≤ 9223372036854775807) : Calls Try.prog 43 #[.pointer (some ⟨g, 0, none⟩), .slice Ad md cd, .int .i64 d] w fun e w' => e = .returned (.bool (rExp B s D d).1) ∧ St w [⟨g, 87, rdC A m c (rExp B s D d).2.k (rExp B s D d).2.co (rExp B s D d).2.po, rdN⟩] w' := by
  obtain ⟨k, co, po⟩ := s
  have hBm := hX.1
  have hDm := hXD.1
  unfold rExp
  dsimp only at hl hk ⊢
  by_cases h : co = 0
  · subst h
    rw [if_pos rfl]
    by_cases h1 : (B.drop k).take D.length = D
    · rw [if_pos h1]
      dsimp only
      rw [hDm] at h1 ⊢
      exact expect_ok g A m c k po d w hl hk hmc hcm B hX hBB D Ad md cd hXD hBD hmd hcd h1
    · rw [if_neg h1]
      rw [hDm] at h1
      by_cases h2 : D.take (B.length - k) = B.drop k
      · rw [if_pos h2]
        dsimp only
        rw [hBm] at h2 ⊢
        exact expect_short g A m c k po d w hl hk hmc hcm B hX hBB D Ad md cd hXD hBD hmd hcd h1 h2
      · rw [if_neg h2]
        rw [hBm] at h2
        unfold rFail
        rw [if_pos ⟨rfl, hd⟩]
        exact expect_bad g A m c k po d hd w hl hk hmc hcm B hX hBB D Ad md cd hXD hBD hmd hcd h1 h2
  · rw [if_neg h]
    exact (expect_f g A m c k co po d Ad md cd h w hl).mono fun e w' ⟨he, hw⟩ => ⟨he, hw.take hl ne_nil⟩
end Go.Proofs.Ytclmgfcdnokaiaa
/-
  The code of layer 7: what a delta must meet to be encoded.
-/
namespace Go.Proofs.Ytclmgfcdnokaiaa
set_option linter.unusedVariables false
set_option linter.unusedSimpArgs false
open Go Go.RowKit
theorem enters36 : Enters Try.prog 36 := ⟨_, Try.func36, by kernel_rfl, by kernel_rfl⟩
theorem enters37 : Enters Try.prog 37 := ⟨_, Try.func37, by kernel_rfl, by kernel_rfl⟩
theorem enters38 : Enters Try.prog 38 := ⟨_, Try.func38, by kernel_rfl, by kernel_rfl⟩
theorem enters39 : Enters Try.prog 39 := ⟨_, Try.func39, by kernel_rfl, by kernel_rfl⟩
theorem enters52 : Enters Try.prog 52 := ⟨_, Try.func52, by kernel_rfl, by kernel_rfl⟩
theorem enters53 : Enters Try.prog 53 := ⟨_, Try.func53, by kernel_rfl, by kernel_rfl⟩
theorem enters54 : Enters Try.prog 54 := ⟨_, Try.func54, by kernel_rfl, by kernel_rfl⟩
theorem enters68 : Enters Try.prog 68 := ⟨_, Try.func68, by kernel_rfl, by kernel_rfl⟩
theorem zero3 : (Try.prog.info? 3).bind (·.zero) = some (.int .i64 0) := by kernel_rfl
instance : Sli Try.prog 95 3 := ⟨Try.underlying95⟩
instance (x : CV) : Decidable (okK x) := by unfold okK; infer_instance
instance (x : CV) : Decidable (okV x) := by unfold okV; infer_instance
def allK (Cs : List CV) : Prop := ∀ (i : Nat) (x : CV), Cs[i]? = some x → okK x
def allV (Cs : List CV) : Prop := ∀ (i : Nat) (x : CV), Cs[i]? = some x → okV x
noncomputable instance (Cs : List CV) : Decidable (allK Cs) := Classical.propDecidable _
noncomputable instance (Cs : List CV) : Decidable (allV Cs) := Classical.propDecidable _
theorem wrongI_notK {o n : Int} {Cs : List CV} (h : ¬ allK Cs) : wrongI o n Cs = 11 := by unfold wrongI; exact if_neg h
theorem wrongI_notV {o n : Int} {Cs : List CV} (hk : allK Cs) (hl : inR o ∧ inR n) (h : ¬ allV Cs) : wrongI o n Cs = 2 := by unfold wrongI; exact (if_pos hk).trans ((if_pos hl).trans (if_neg h))
def allR (B : List Int) : Prop := ∀ x ∈ B, inR x
instance (B : List Int) : Decidable (allR B) := by unfold allR; infer_instance
theorem allR2 {a b : Int} : allR [a, b] ↔ inR a ∧ inR b := by unfold allR; simp
theorem allR3 {a b c : Int} : allR [a, b, c] ↔ (inR a ∧ inR b ∧ inR c) := by unfold allR; simp
theorem allR_iff {B : List Int} {m : Nat} (hl : B.length = m) : allR B ↔ ∀ i, i < m → inR (B.getD i 0) := by
  subst hl
  unfold allR
  constructor
  · intro h i hi
    rw [List.getD_eq_getElem?_getD, List.getElem?_eq_getElem hi]
    exact h _ (List.getElem_mem hi)
  · intro h x hx
    obtain ⟨i, hi, rfl⟩ := List.getElem_of_mem hx
    have := h i hi
    rw [List.getD_eq_getElem?_getD, List.getElem?_eq_getElem hi] at this; exact this

set_option maxRecDepth 100000 in
set_option maxHeartbeats 400000 in
theorem unk_c (x : CV) (w : World) : Calls Try.prog 37 #[.agg ([Value.int .i64 x.k, Value.int .i64 x.t, Value.int .i64 x.f, Value.int .i64 x.l, Value.slice x.A x.m x.c]).toArray] w fun e w' => e = .returned (.bool (decide (¬ okK x))) ∧ St w [] w' := by
  refine calls_from (args := [.agg ([Value.int .i64 x.k, Value.int .i64 x.t, Value.int .i64 x.f, Value.int .i64 x.l, Value.slice x.A x.m x.c]).toArray]) Try.func37 rfl Try.ntmps37 (by simp) ?_
  refine TC.pr [0] ?_
  iterate 2 refine gx ?_
  refine TL.bxA (fun g1 hg1 => ?_)
  iterate 7 refine gx ?_
  by_cases c1 : x.k ≠ 1
  · refine TL.gets (Wants.none rfl) rfl (Gets.isTrue (Gets.neq rfl rfl rfl) c1) ?_
    iterate 3 refine gx ?_
    by_cases c2 : x.k ≠ 2
    · refine TL.gets (Wants.yes rfl rfl rfl) rfl (Gets.isTrue (Gets.neq rfl rfl rfl) c2) ?_
      iterate 5 refine gx ?_
      exact TE.ret1 rfl rfl (fun w hs => ⟨dec_t (by unfold okK; omega), (hs.drop (by assumption))⟩)
    · refine TL.gets (Wants.yes rfl rfl rfl) rfl (Gets.isFalse (Gets.neq rfl rfl rfl) c2) ?_
      iterate 5 refine gx ?_
      exact TE.ret1 rfl rfl (fun w hs => ⟨dec_f (by unfold okK; omega), (hs.drop (by assumption))⟩)
  · refine TL.gets (Wants.none rfl) rfl (Gets.isFalse (Gets.neq rfl rfl rfl) c1) ?_
    iterate 9 refine gx ?_
    exact TE.ret1 rfl rfl (fun w hs => ⟨dec_f (by unfold okK; omega), (hs.drop (by assumption))⟩)

set_option maxRecDepth 100000 in
set_option maxHeartbeats 400000 in
theorem inr1_c (n : Int) (w : World) : Calls Try.prog 54 #[.int .i64 n] w fun e w' => e = .returned (.bool (decide (¬ inR n))) ∧ St w [] w' := by
  refine calls_from (args := [.int .i64 n]) Try.func54 rfl Try.ntmps54 (by simp) ?_
  refine TC.pr [0] ?_
  iterate 8 refine gx ?_
  by_cases c1 : n < 0
  · refine TL.gets (Wants.none rfl) rfl (Gets.isTrue (Gets.lss rfl rfl rfl) c1) ?_
    iterate 8 refine gx ?_
    exact TE.ret1 rfl rfl (fun w hs => ⟨dec_t (by unfold inR; omega), hs⟩)
  · refine TL.gets (Wants.none rfl) rfl (Gets.isFalse (Gets.lss rfl rfl rfl) c1) ?_
    iterate 2 refine gx ?_
    by_cases c2 : 4611686018427387903 < n
    · refine TL.gets (Wants.yes rfl rfl rfl) rfl (Gets.isTrue (Gets.gtr rfl rfl rfl) c2) ?_
      iterate 5 refine gx ?_
      exact TE.ret1 rfl rfl (fun w hs => ⟨dec_t (by unfold inR; omega), hs⟩)
    · refine TL.gets (Wants.yes rfl rfl rfl) rfl (Gets.isFalse (Gets.gtr rfl rfl rfl) c2) ?_
      iterate 5 refine gx ?_
      exact TE.ret1 rfl rfl (fun w hs => ⟨dec_f (by unfold inR; omega), hs⟩)

set_option maxRecDepth 100000 in
set_option maxHeartbeats 400000 in
theorem idxi_c (B : List Int) (A : Option Addr) (m c : Nat) (w : World) (hs0 : Src w A m .i64 B) (hm : m ≤ 1000) : Calls Try.prog 68 #[.slice A m c, .func (.func 54) #[] #[]] w fun e w' => ∃ r : Int, e = .returned (.int .i64 r) ∧ ((0 : Int) ≤ r ↔ ¬ allR B) ∧ St w [] w' := by
  refine calls_from (args := [.slice A m c, .func (.func 54) #[] #[]]) Try.func68 rfl Try.ntmps68 (by simp) ?_
  refine TC.pr [0, 1] ?_
  iterate 14 refine gx ?_
  refine TC.loop (ι := Nat) (fun i => [(0, .slice A m c), (1, .func (.func 54) #[] #[]), (7, .int .i64 (m : Int)), (8, .int .i64 (i : Int))]) (fun i => []) (fun i => m - i) (fun i => i ≤ m ∧ ∀ j, j < i → inR (B.getD j 0)) 0 ⟨Nat.zero_le _, fun j h => absurd h (Nat.not_lt_zero j)⟩ (Sub.slice (i := 0) rfl rfl (by first | omega | (dsimp only; omega) | rfl) (by first | omega | (dsimp only; omega) | rfl) (Sub.cons (i := 1) rfl (Sub.int (i := 7) rfl (by first | omega | rfl) (Sub.int (i := 8) rfl (by first | omega | rfl) (Sub.nil))))) (fun w h => h) (fun i hC0 => ?_)
  obtain ⟨hi0, hC1⟩ := hC0
  iterate 6 refine gx ?_
  refine TC.split rfl (fun hq0 => ?_) (fun hq0 => ?_)
  · obtain ⟨b, off, hAe, hb, hr⟩ := hs0.2.resolve_left (by omega)
    subst hAe
    iterate 15 refine gx ?_
    refine TL.gets (Wants.none rfl) rfl (Gets.idxSlice rfl Try.underlying95 size3 rfl rfl (i := i) (by omega) (by omega) (off' := (off + i)) (by omega)) ?_
    refine TL.gets (Wants.none rfl) rfl (Gets.load1 rfl agg3 rfl (At.rowI hr (i := i) (by omega) (by omega) hb ne_nil)) ?_
    refine TL.call0F (Wants.none rfl) rfl enters54 rfl rfl rfl (u := .bool (decide (¬ inR (B.getD i 0)))) (fun w hs => inr1_c (B.getD i 0) w) ?_
    iterate 2 refine gx ?_
    refine TC.pr [0, 1, 5, 7, 8, 16] ?_
    refine TC.split rfl (fun hq1 => ?_) (fun hq1 => ?_)
    · iterate 12 refine gx ?_
      exact TE.ret1 rfl rfl (fun w hs => ⟨_, rfl, ⟨fun _ h => hq1 ((allR_iff hs0.1).1 h i (by omega)), fun _ => by omega⟩, hs⟩)
    · iterate 4 refine gx ?_
      refine TL.gets (Wants.none rfl) rfl (Gets.add rfl rfl rfl (r := ((i : Int) + 1)) (w64 (by omega) (by omega))) ?_
      iterate 2 refine gx ?_
      exact TE.back (i + 1) (by omega) ⟨by omega, fun j hj => by rcases Nat.lt_succ_iff_lt_or_eq.1 hj with hj | rfl; exact hC1 j hj; exact Decidable.not_not.1 hq1⟩ (Sub.slice (i := 0) rfl (by first | rfl | (congr 2; omega)) (by first | omega | (dsimp only; omega) | rfl) (by first | omega | (dsimp only; omega) | rfl) (Sub.cons (i := 1) rfl (Sub.int (i := 7) rfl (by first | omega | rfl) (Sub.int (i := 8) rfl (by first | omega | rfl) (Sub.nil))))) (fun w h => h)
  · iterate 11 refine gx ?_
    exact TE.ret1 rfl rfl (fun w hs => ⟨_, rfl, ⟨fun h => absurd h (by decide), fun h => absurd ((allR_iff hs0.1).2 (fun j hj => hC1 j (by omega))) h⟩, hs⟩)

set_option maxRecDepth 100000 in
set_option maxHeartbeats 400000 in
theorem coni_c (B : List Int) (A : Option Addr) (m c : Nat) (w : World) (hs0 : Src w A m .i64 B) (hm : m ≤ 1000) : Calls Try.prog 53 #[.slice A m c, .func (.func 54) #[] #[]] w fun e w' => e = .returned (.bool (decide (¬ allR B))) ∧ St w [] w' := by
  refine calls_from (args := [.slice A m c, .func (.func 54) #[] #[]]) Try.func53 rfl Try.ntmps53 (by simp) ?_
  refine TC.pr [0, 1] ?_
  iterate 9 refine gx ?_
  refine TL.call (ι := Int) (V := fun yr => .int .i64 yr) (R := fun yr => (0 : Int) ≤ yr ↔ ¬ allR B) (H' := fun _ => []) (Wants.none rfl) rfl enters68 rfl rfl (fun w hs => (idxi_c B A m c w (hs0.at_ hs (fun b hb => ne_nil)) (by omega)).mono fun e w' ⟨y, he, hR, hw⟩ => ⟨y, he, hR, hs.call' hw⟩) (fun yr hyr => ?_)
  iterate 5 refine gx ?_
  exact TE.ret1 rfl rfl (fun w hs => ⟨dec_iff (hyr), hs⟩)

set_option maxRecDepth 100000 in
set_option maxHeartbeats 400000 in
theorem inrange_c (B : List Int) (A : Option Addr) (m c : Nat) (w : World) (hs0 : Src w A m .i64 B) (hm : m ≤ 1000) : Calls Try.prog 38 #[.slice A m c] w fun e w' => e = .returned (.bool (decide (allR B))) ∧ St w [] w' := by
  refine calls_from (args := [.slice A m c]) Try.func38 rfl Try.ntmps38 (by simp) ?_
  refine TC.pr [0] ?_
  iterate 8 refine gx ?_
  refine TL.call0 (Wants.none rfl) rfl enters53 rfl rfl (v := .bool (decide (¬ allR B))) (fun w hs => coni_c B A m c w (hs0.at_ hs (fun b hb => ne_nil)) (by omega)) ?_
  iterate 5 refine gx ?_
  exact TE.ret1 rfl rfl (fun w hs => ⟨dec_iff (Decidable.not_not), hs⟩)

set_option maxRecDepth 100000 in
set_option maxHeartbeats 2000000 in
theorem unfit_c (x : CV) (hk : okK x) (w : World) : Calls Try.prog 39 #[.agg ([Value.int .i64 x.k, Value.int .i64 x.t, Value.int .i64 x.f, Value.int .i64 x.l, Value.slice x.A x.m x.c]).toArray] w fun e w' => e = .returned (.bool (decide (¬ okV x))) ∧ St w [] w' := by
  have hk2 := hk
  unfold okK at hk2
  refine calls_from (args := [.agg ([Value.int .i64 x.k, Value.int .i64 x.t, Value.int .i64 x.f, Value.int .i64 x.l, Value.slice x.A x.m x.c]).toArray]) Try.func39 rfl Try.ntmps39 (by simp) ?_
  refine TC.pr [0] ?_
  iterate 2 refine gx ?_
  refine TL.bxA (fun g1 hg1 => ?_)
  iterate 12 refine gx ?_
  refine TL.buildSlice (Wants.none rfl) rfl rfl Try.underlying95 size3 zero3 rfl (by decide) (by decide) (cells := #[.int .i64 x.t, .int .i64 x.f, .int .i64 x.l]) (tot := 3) (by kernel_rfl) (cs := [.int .i64 x.t, .int .i64 x.f, .int .i64 x.l]) rfl rfl (fun g2 hg2 => ?_)
  by_cases c1 : inR x.t ∧ inR x.f ∧ inR x.l
  · refine TL.call0 (Wants.none rfl) rfl enters38 rfl rfl (v := .bool true) (fun w hs => ((inrange_c [x.t, x.f, x.l] (some ⟨g2, 0, none⟩) 3 3 w (src_ent (W := [x.t, x.f, x.l]) (hs.has (⟨g2, 3, [Value.int .i64 x.t, Value.int .i64 x.f, Value.int .i64 x.l], 3⟩) (by simp)) rfl) (by omega)).mono fun e w' h => by rw [decide_eq_decide.2 allR3] at h; exact h).mono fun e w' h => by rw [decide_eq_true (p := inR x.t ∧ inR x.f ∧ inR x.l) c1] at h; exact h) ?_
    iterate 3 refine gx ?_
    refine TC.pr [1, 2, 11] ?_
    refine TC.no rfl ?_
    iterate 10 refine gx ?_
    refine TC.split rfl (fun h1 => ?_) (fun h1 => ?_)
    · iterate 11 refine gx ?_
      exact TE.ret1 rfl rfl (fun w hs => ⟨dec_iff (by unfold okV; simp only [inR] at *; omega), ((hs.drop (by assumption)).drop (by assumption))⟩)
    · iterate 6 refine gx ?_
      by_cases c2 : x.f ≠ 0
      · refine TL.gets (Wants.none rfl) rfl (Gets.isTrue (Gets.neq rfl rfl rfl) c2) ?_
        iterate 9 refine gx ?_
        exact TE.ret1 rfl rfl (fun w hs => ⟨dec_t (by unfold okV; simp only [inR] at *; omega), ((hs.drop (by assumption)).drop (by assumption))⟩)
      · refine TL.gets (Wants.none rfl) rfl (Gets.isFalse (Gets.neq rfl rfl rfl) c2) ?_
        iterate 9 refine gx ?_
        exact TE.ret1 rfl rfl (fun w hs => ⟨dec_iff (by unfold okV; simp only [inR] at *; omega), ((hs.drop (by assumption)).drop (by assumption))⟩)
  · refine TL.call0 (Wants.none rfl) rfl enters38 rfl rfl (v := .bool false) (fun w hs => ((inrange_c [x.t, x.f, x.l] (some ⟨g2, 0, none⟩) 3 3 w (src_ent (W := [x.t, x.f, x.l]) (hs.has (⟨g2, 3, [Value.int .i64 x.t, Value.int .i64 x.f, Value.int .i64 x.l], 3⟩) (by simp)) rfl) (by omega)).mono fun e w' h => by rw [decide_eq_decide.2 allR3] at h; exact h).mono fun e w' h => by rw [decide_eq_false (p := inR x.t ∧ inR x.f ∧ inR x.l) c1] at h; exact h) ?_
    iterate 3 refine gx ?_
    refine TC.pr [1, 2, 11] ?_
    refine TC.yes rfl ?_
    iterate 7 refine gx ?_
    exact TE.ret1 rfl rfl (fun w hs => ⟨dec_t (by unfold okV; simp only [inR] at *; omega), ((hs.drop (by assumption)).drop (by assumption))⟩)

set_option maxRecDepth 100000 in
set_option maxHeartbeats 400000 in
theorem idxunk_c (A : Option Addr) (m c : Nat) (Cs : List CV) (hmm : m ≤ 1000000000) (hN : NumsC Cs) (w : World) (hC : SrcC w A m Cs) : Calls Try.prog 52 #[.slice A m c, .func (.func 37) #[] #[]] w fun e w' => ∃ r : Int, e = .returned (.int .i64 r) ∧ ((0 : Int) ≤ r ↔ ¬ allK Cs) ∧ St w [] w' := by
  refine calls_from (args := [.slice A m c, .func (.func 37) #[] #[]]) Try.func52 rfl Try.ntmps52 (by simp) ?_
  refine TC.pr [0, 1] ?_
  iterate 14 refine gx ?_
  refine TC.loop (ι := Nat) (fun i => [(0, .slice A m c), (1, .func (.func 37) #[] #[]), (7, .int .i64 (m : Int)), (8, .int .i64 (i : Int))]) (fun i => []) (fun i => m - i) (fun i => i ≤ m ∧ ∀ (j : Nat) (y : CV), j < i → Cs[j]? = some y → okK y) 0 ⟨Nat.zero_le _, fun j y h => absurd h (Nat.not_lt_zero j)⟩ (Sub.slice (i := 0) rfl rfl (by first | omega | (dsimp only; omega) | rfl) (by first | omega | (dsimp only; omega) | rfl) (Sub.cons (i := 1) rfl (Sub.int (i := 7) rfl (by first | omega | rfl) (Sub.int (i := 8) rfl (by first | omega | rfl) (Sub.nil))))) (fun w h => h) (fun i hC0 => ?_)
  obtain ⟨hi0, hC1⟩ := hC0
  iterate 6 refine gx ?_
  refine TC.split rfl (fun hq0 => ?_) (fun hq0 => ?_)
  · obtain ⟨b, off, hAe, hb, hrw⟩ := hC.some_ (i := i) (by omega)
    subst hAe
    obtain ⟨x, hx⟩ := hC.get (i := i) (by omega)
    have hnx := hN i x hx
    unfold NumC at hnx
    have hlbx := lenV_bd (k := x.k) (l := x.l) (m := x.m) (by omega) (by omega)
    iterate 15 refine gx ?_
    refine TL.gets (Wants.none rfl) rfl (Gets.idxSlice rfl Try.underlying23 size47 rfl rfl (i := i) (by omega) (by omega) (off' := (off + 5 * i)) (by omega)) ?_
    refine TL.gets (Wants.none rfl) rfl (Gets.loadN rfl agg47 size47 rfl rfl (Row.old (fun jj u h => hrw i x hx jj u h) hb ne_nil)) ?_
    refine TL.call0F (Wants.none rfl) rfl enters37 rfl rfl rfl (u := .bool (decide (¬ okK x))) (fun w hs => unk_c x w) ?_
    iterate 2 refine gx ?_
    refine TC.pr [0, 1, 5, 7, 8, 16] ?_
    refine TC.split rfl (fun hq1 => ?_) (fun hq1 => ?_)
    · iterate 12 refine gx ?_
      exact TE.ret1 rfl rfl (fun w hs => ⟨_, rfl, ⟨fun _ h => hq1 (h i x hx), fun _ => by omega⟩, hs⟩)
    · iterate 4 refine gx ?_
      refine TL.gets (Wants.none rfl) rfl (Gets.add rfl rfl rfl (r := ((i : Int) + 1)) (w64 (by omega) (by omega))) ?_
      iterate 2 refine gx ?_
      exact TE.back (i + 1) (by omega) ⟨by omega, all_succ hC1 hx (Decidable.not_not.1 hq1)⟩ (Sub.slice (i := 0) rfl (by first | rfl | (congr 2; omega)) (by first | omega | (dsimp only; omega) | rfl) (by first | omega | (dsimp only; omega) | rfl) (Sub.cons (i := 1) rfl (Sub.int (i := 7) rfl (by first | omega | rfl) (Sub.int (i := 8) rfl (by first | omega | rfl) (Sub.nil))))) (fun w h => h)
  · iterate 11 refine gx ?_
    exact TE.ret1 rfl rfl (fun w hs => ⟨_, rfl, ⟨fun h => absurd h (by decide), fun h => absurd (all_of (m := m) (by have := hC.1; omega) (fun j y hj => hC1 j y (by omega))) h⟩, hs⟩)

set_option maxRecDepth 100000 in
set_option maxHeartbeats 400000 in
theorem conunk_c (A : Option Addr) (m c : Nat) (Cs : List CV) (hmm : m ≤ 1000000000) (hN : NumsC Cs) (w : World) (hC : SrcC w A m Cs) : Calls Try.prog 36 #[.slice A m c, .func (.func 37) #[] #[]] w fun e w' => e = .returned (.bool (decide (¬ allK Cs))) ∧ St w [] w' := by
  refine calls_from (args := [.slice A m c, .func (.func 37) #[] #[]]) Try.func36 rfl Try.ntmps36 (by simp) ?_
  refine TC.pr [0, 1] ?_
  iterate 9 refine gx ?_
  refine TL.call (ι := Int) (V := fun yr => .int .i64 yr) (R := fun yr => (0 : Int) ≤ yr ↔ ¬ allK Cs) (H' := fun _ => []) (Wants.none rfl) rfl enters52 rfl rfl (fun w hs => (idxunk_c A m c Cs (by omega) hN w (hC.at_ hs (fun b hb => ne_nil))).mono fun e w' ⟨y, he, hR, hw⟩ => ⟨y, he, hR, hs.call' hw⟩) (fun yr hyr => ?_)
  iterate 5 refine gx ?_
  exact TE.ret1 rfl rfl (fun w hs => ⟨dec_iff (hyr), hs⟩)

set_option maxRecDepth 100000 in
set_option maxHeartbeats 400000 in
theorem idxunf_c (A : Option Addr) (m c : Nat) (Cs : List CV) (hk : allK Cs) (hmm : m ≤ 1000000000) (hN : NumsC Cs) (w : World) (hC : SrcC w A m Cs) : Calls Try.prog 52 #[.slice A m c, .func (.func 39) #[] #[]] w fun e w' => ∃ r : Int, e = .returned (.int .i64 r) ∧ ((0 : Int) ≤ r ↔ ¬ allV Cs) ∧ St w [] w' := by
  refine calls_from (args := [.slice A m c, .func (.func 39) #[] #[]]) Try.func52 rfl Try.ntmps52 (by simp) ?_
  refine TC.pr [0, 1] ?_
  iterate 14 refine gx ?_
  refine TC.loop (ι := Nat) (fun i => [(0, .slice A m c), (1, .func (.func 39) #[] #[]), (7, .int .i64 (m : Int)), (8, .int .i64 (i : Int))]) (fun i => []) (fun i => m - i) (fun i => i ≤ m ∧ ∀ (j : Nat) (y : CV), j < i → Cs[j]? = some y → okV y) 0 ⟨Nat.zero_le _, fun j y h => absurd h (Nat.not_lt_zero j)⟩ (Sub.slice (i := 0) rfl rfl (by first | omega | (dsimp only; omega) | rfl) (by first | omega | (dsimp only; omega) | rfl) (Sub.cons (i := 1) rfl (Sub.int (i := 7) rfl (by first | omega | rfl) (Sub.int (i := 8) rfl (by first | omega | rfl) (Sub.nil))))) (fun w h => h) (fun i hC0 => ?_)
  obtain ⟨hi0, hC1⟩ := hC0
  iterate 6 refine gx ?_
  refine TC.split rfl (fun hq0 => ?_) (fun hq0 => ?_)
  · obtain ⟨b, off, hAe, hb, hrw⟩ := hC.some_ (i := i) (by omega)
    subst hAe
    obtain ⟨x, hx⟩ := hC.get (i := i) (by omega)
    have hnx := hN i x hx
    unfold NumC at hnx
    have hlbx := lenV_bd (k := x.k) (l := x.l) (m := x.m) (by omega) (by omega)
    iterate 15 refine gx ?_
    refine TL.gets (Wants.none rfl) rfl (Gets.idxSlice rfl Try.underlying23 size47 rfl rfl (i := i) (by omega) (by omega) (off' := (off + 5 * i)) (by omega)) ?_
    refine TL.gets (Wants.none rfl) rfl (Gets.loadN rfl agg47 size47 rfl rfl (Row.old (fun jj u h => hrw i x hx jj u h) hb ne_nil)) ?_
    refine TL.call0F (Wants.none rfl) rfl enters39 rfl rfl rfl (u := .bool (decide (¬ okV x))) (fun w hs => unfit_c x (hk i x hx) w) ?_
    iterate 2 refine gx ?_
    refine TC.pr [0, 1, 5, 7, 8, 16] ?_
    refine TC.split rfl (fun hq1 => ?_) (fun hq1 => ?_)
    · iterate 12 refine gx ?_
      exact TE.ret1 rfl rfl (fun w hs => ⟨_, rfl, ⟨fun _ h => hq1 (h i x hx), fun _ => by omega⟩, hs⟩)
    · iterate 4 refine gx ?_
      refine TL.gets (Wants.none rfl) rfl (Gets.add rfl rfl rfl (r := ((i : Int) + 1)) (w64 (by omega) (by omega))) ?_
      iterate 2 refine gx ?_
      exact TE.back (i + 1) (by omega) ⟨by omega, all_succ hC1 hx (Decidable.not_not.1 hq1)⟩ (Sub.slice (i := 0) rfl (by first | rfl | (congr 2; omega)) (by first | omega | (dsimp only; omega) | rfl) (by first | omega | (dsimp only; omega) | rfl) (Sub.cons (i := 1) rfl (Sub.int (i := 7) rfl (by first | omega | rfl) (Sub.int (i := 8) rfl (by first | omega | rfl) (Sub.nil))))) (fun w h => h)
  · iterate 11 refine gx ?_
    exact TE.ret1 rfl rfl (fun w hs => ⟨_, rfl, ⟨fun h => absurd h (by decide), fun h => absurd (all_of (m := m) (by have := hC.1; omega) (fun j y hj => hC1 j y (by omega))) h⟩, hs⟩)

set_option maxRecDepth 100000 in
set_option maxHeartbeats 400000 in
theorem conunf_c (A : Option Addr) (m c : Nat) (Cs : List CV) (hk : allK Cs) (hmm : m ≤ 1000000000) (hN : NumsC Cs) (w : World) (hC : SrcC w A m Cs) : Calls Try.prog 36 #[.slice A m c, .func (.func 39) #[] #[]] w fun e w' => e = .returned (.bool (decide (¬ allV Cs))) ∧ St w [] w' := by
  refine calls_from (args := [.slice A m c, .func (.func 39) #[] #[]]) Try.func36 rfl Try.ntmps36 (by simp) ?_
  refine TC.pr [0, 1] ?_
  iterate 9 refine gx ?_
  refine TL.call (ι := Int) (V := fun yr => .int .i64 yr) (R := fun yr => (0 : Int) ≤ yr ↔ ¬ allV Cs) (H' := fun _ => []) (Wants.none rfl) rfl enters52 rfl rfl (fun w hs => (idxunf_c A m c Cs hk (by omega) hN w (hC.at_ hs (fun b hb => ne_nil))).mono fun e w' ⟨y, he, hR, hw⟩ => ⟨y, he, hR, hs.call' hw⟩) (fun yr hyr => ?_)
  iterate 5 refine gx ?_
  exact TE.ret1 rfl rfl (fun w hs => ⟨dec_iff (hyr), hs⟩)

set_option maxRecDepth 100000 in
set_option maxHeartbeats 2000000 in
theorem check7_c (o n : Int) (H1 H2 : List Int) (hH1 : H1.length = 32) (hH2 : H2.length = 32) (A : Option Addr) (m c : Nat) (Cs : List CV) (hmc : m ≤ c) (hcm : c ≤ 9223372036854775807) (hm : m ≤ 1000000) (hN : NumsC Cs) (w : World) (hC : SrcC w A m Cs) : Calls Try.prog 18 #[.agg ([Value.int .i64 o, Value.int .i64 n] ++ (H1.map (Value.int .u8) ++ (H2.map (Value.int .u8) ++ ([Value.slice A m c])))).toArray] w fun e w' => e = .returned (.int .i64 (wrongI o n Cs)) ∧ St w [] w' := by
  refine calls_from (args := [.agg ([Value.int .i64 o, Value.int .i64 n] ++ (H1.map (Value.int .u8) ++ (H2.map (Value.int .u8) ++ ([Value.slice A m c])))).toArray]) Try.func18 rfl Try.ntmps18 (by simp) ?_
  refine TC.pr [0] ?_
  iterate 2 refine gx ?_
  refine TL.box (Wants.none rfl) rfl rfl rfl (cs := [Value.int .i64 o, Value.int .i64 n] ++ (H1.map (Value.int .u8) ++ (H2.map (Value.int .u8) ++ ([Value.slice A m c])))) (by simp [Value.cells]) (tot := 67) (by simp [hH1, hH2]) (fun g1 hg1 => ?_)
  iterate 8 refine gx ?_
  refine TL.call0 (Wants.none rfl) rfl enters36 rfl rfl (v := .bool (decide (¬ allK Cs))) (fun w hs => conunk_c A m c Cs (by omega) hN w (hC.at_ hs (fun b hb => (ne_cons (by show g1 ≠ b; omega) ne_nil)))) ?_
  iterate 2 refine gx ?_
  refine TC.split rfl (fun h0 => ?_) (fun h0 => ?_)
  · iterate 7 refine gx ?_
    exact TE.ret1 rfl rfl (fun w hs => ⟨ret_i ((wrongI_notK h0).symm), (hs.drop (by assumption))⟩)
  · have hkk : allK Cs := Decidable.not_not.1 h0
    iterate 9 refine gx ?_
    refine TL.buildSlice (Wants.none rfl) rfl rfl Try.underlying95 size3 zero3 rfl (by decide) (by decide) (cells := #[.int .i64 o, .int .i64 n]) (tot := 2) (by kernel_rfl) (cs := [.int .i64 o, .int .i64 n]) rfl rfl (fun g2 hg2 => ?_)
    by_cases q1 : inR o ∧ inR n
    · refine TL.call0 (Wants.none rfl) rfl enters38 rfl rfl (v := .bool true) (fun w hs => ((inrange_c [o, n] (some ⟨g2, 0, none⟩) 2 2 w (src_ent (W := [o, n]) (hs.has (⟨g2, 3, [Value.int .i64 o, Value.int .i64 n], 2⟩) (by simp)) rfl) (by omega)).mono fun e w' h => by rw [decide_eq_decide.2 allR2] at h; exact h).mono fun e w' h => by rw [decide_eq_true (p := inR o ∧ inR n) q1] at h; exact h) ?_
      iterate 5 refine gx ?_
      refine TL.gets (Wants.yes rfl rfl rfl) rfl (Gets.isFalse (Gets.gtr rfl rfl rfl) (by omega)) ?_
      iterate 4 refine gx ?_
      by_cases q2 : ¬ allV Cs
      · refine TL.call0 (Wants.yes rfl rfl rfl) rfl enters36 rfl rfl (v := .bool true) (fun w hs => (conunf_c A m c Cs hkk (by omega) hN w (hC.at_ hs (fun b hb => (ne_cons (by show g2 ≠ b; omega) (ne_cons (by show g1 ≠ b; omega) ne_nil))))).mono fun e w' h => by rw [decide_eq_true (p := ¬ allV Cs) q2] at h; exact h) ?_
        iterate 3 refine gx ?_
        refine TC.pr [2, 23] ?_
        refine TC.yes rfl ?_
        iterate 7 refine gx ?_
        exact TE.ret1 rfl rfl (fun w hs => ⟨ret_i (by first | exact (wrongI_len hkk q1).symm | exact (wrongI_notV hkk q1 q2).symm), ((hs.drop (by assumption)).drop (by assumption))⟩)
      · refine TL.call0 (Wants.yes rfl rfl rfl) rfl enters36 rfl rfl (v := .bool false) (fun w hs => (conunf_c A m c Cs hkk (by omega) hN w (hC.at_ hs (fun b hb => (ne_cons (by show g2 ≠ b; omega) (ne_cons (by show g1 ≠ b; omega) ne_nil))))).mono fun e w' h => by rw [decide_eq_false (p := ¬ allV Cs) q2] at h; exact h) ?_
        iterate 3 refine gx ?_
        refine TC.pr [2, 23] ?_
        refine TC.no rfl ?_
        iterate 8 refine gx ?_
        exact TE.ret1 rfl rfl (fun w hs => ⟨ret_i ((wrongI_0 hkk q1 (show allV Cs from Classical.not_not.1 q2)).symm), ((hs.drop (by assumption)).drop (by assumption))⟩)
    · refine TL.call0 (Wants.none rfl) rfl enters38 rfl rfl (v := .bool false) (fun w hs => ((inrange_c [o, n] (some ⟨g2, 0, none⟩) 2 2 w (src_ent (W := [o, n]) (hs.has (⟨g2, 3, [Value.int .i64 o, Value.int .i64 n], 2⟩) (by simp)) rfl) (by omega)).mono fun e w' h => by rw [decide_eq_decide.2 allR2] at h; exact h).mono fun e w' h => by rw [decide_eq_false (p := inR o ∧ inR n) q1] at h; exact h) ?_
      iterate 14 refine gx ?_
      refine TC.pr [2, 23] ?_
      refine TC.yes rfl ?_
      iterate 7 refine gx ?_
      exact TE.ret1 rfl rfl (fun w hs => ⟨ret_i (by first | exact (wrongI_len hkk q1).symm | exact (wrongI_notV hkk q1 q2).symm), ((hs.drop (by assumption)).drop (by assumption))⟩)
end Go.Proofs.Ytclmgfcdnokaiaa
namespace Go.Proofs.Ytclmgfcdnokaiaa
set_option linter.unusedVariables false
set_option linter.unusedSimpArgs false
set_option linter.unusedVariables false
open Go Go.RowKit
/-- A block of which all is known, its mark too. -/
structure GEnt where
  g : Nat
  t : TypeId
  cs : List Value
  fl : Nat × Nat
def GEnt.lies (d : GEnt) (w : World) : Prop := w.heap[d.g]? = some (.cells d.cs.toArray d.t d.fl)
structure StG (w0 : World) (H : List Ent) (D : List GEnt) (w : World) : Prop where
  st : St w0 H w
  ds : ∀ d ∈ D, d.lies w ∧ w0.heap.size ≤ d.g ∧ ∀ e ∈ H, e.g ≠ d.g
section
variable {P : Program} {ops : Array Oper} {md : Region.Mode} {w0 : World} {HB : List Ent}
theorem GEnt.lies.lt {d : GEnt} {w : World} (h : d.lies w) : d.g < w.heap.size := (Array.getElem?_eq_some_iff.1 h).1
theorem StG.perm {w : World} {H H' : List Ent} {D : List GEnt} (h : StG w0 H D w) (hp : H.Perm H') : StG w0 H' D w :=
  ⟨h.st.perm hp, fun d hd => ⟨(h.ds d hd).1, (h.ds d hd).2.1, fun e he => (h.ds d hd).2.2 e (hp.mem_iff.2 he)⟩⟩
theorem StG.call {w w' : World} {H E : List Ent} {D : List GEnt} (h : StG w0 H D w) (hw : St w E w') (hE : Fresh w E) : StG w0 (H ++ E) D w' :=
  ⟨st_call h.st hw hE, fun d hd => by
    obtain ⟨h1, h2, h3⟩ := h.ds d hd
    refine ⟨(hw.old d.g h1.lt (hE.ne h1.lt)).trans h1, h2, fun e he => ?_⟩
    rcases List.mem_append.1 he with he | he
    · exact h3 e he
    · exact hE.ne h1.lt e he⟩
def OneG (P : Program) (o : Oper) (v : Value) (a : Act) (w : World) : Prop :=
  (execOp a.eval o).run P w = .ok (.value v) w ∨ ∃ f vs, (execOp a.eval o).run P w = .ok (.enter f vs) w ∧ Calls P f vs w fun e w' => e = .returned v ∧ St w [] w'
def ValG (P : Program) (ops : Array Oper) (w0 : World) (HB : List Ent) (k : Nat) (X : List Ent) (o : Oper) (v : Value) (a : Act) : Prop :=
  Region.wanted o (yielded ops a.tmps) = true ∧ ∀ Z w, Fresh w0 Z → St w0 (HB ++ (if k = 0 then Z else X ++ Z)) w → OneG P o v a w
theorem ValG.of_same {k : Nat} {X : List Ent} {o : Oper} {v : Value} {a a' : Act} (h : ValG P ops w0 HB k X o v a) (he : execOp a'.eval o = execOp a.eval o)
    (hw : Region.wanted o (yielded ops a'.tmps) = Region.wanted o (yielded ops a.tmps)) : ValG P ops w0 HB k X o v a' := by
  unfold ValG OneG at *; rw [he, hw]; exact h
theorem ValG.perm {k : Nat} {X X' : List Ent} {o : Oper} {v : Value} {a : Act} (h : ValG P ops w0 HB k X o v a) (hp : X.Perm X') : ValG P ops w0 HB k X' o v a := ⟨h.1, fun Z w hZ hs => by
  refine h.2 Z w hZ ?_
  by_cases hk : k = 0
  · rw [if_pos hk] at hs ⊢; exact hs
  · rw [if_neg hk] at hs ⊢
    exact hs.perm (List.Perm.append_left HB (List.Perm.append_right Z hp.symm))⟩
theorem ValG.more {k : Nat} {X E : List Ent} {o : Oper} {v : Value} {a : Act} (h : ValG P ops w0 HB k X o v a) (he : Fresh w0 E) : ValG P ops w0 HB k (X ++ E) o v a := ⟨h.1, fun Z w hZ hs => by
  by_cases hk : k = 0
  · refine h.2 Z w hZ ?_
    rw [if_pos hk] at hs ⊢; exact hs
  · refine h.2 (E ++ Z) w (he.app hZ) ?_
    rw [if_neg hk] at hs ⊢
    rw [← List.append_assoc X]; exact hs⟩
/-- The operation makes a block of which all is known. -/
def MakesG (P : Program) (ops : Array Oper) (o : Oper) (a : Act) (R : Value → GEnt → Prop) (w : World) : Prop :=
  (∃ v d w', (execOp a.eval o).run P w = .ok (.value v) w' ∧ R v d ∧ w.heap.size ≤ d.g ∧ d.lies w' ∧ St w [] w') ∧ Region.wanted o (yielded ops a.tmps) = true
theorem MakesG.of_same {o : Oper} {a a' : Act} {w : World} {R : Value → GEnt → Prop} (h : MakesG P ops o a R w) (he : execOp a'.eval o = execOp a.eval o)
    (hw : Region.wanted o (yielded ops a'.tmps) = Region.wanted o (yielded ops a.tmps)) : MakesG P ops o a' R w := by
  unfold MakesG at *; rw [he, hw]; exact h
/-- The operation turns such blocks. -/
def MarksG (P : Program) (ops : Array Oper) (w0 : World) (D D' : List GEnt) (o : Oper) (v : Value) (a : Act) : Prop :=
  (∀ w H, StG w0 H D w → ∃ w', (execOp a.eval o).run P w = .ok (.value v) w' ∧ StG w0 H D' w') ∧ Region.wanted o (yielded ops a.tmps) = true
theorem MarksG.of_same {D D' : List GEnt} {o : Oper} {v : Value} {a a' : Act} (h : MarksG P ops w0 D D' o v a) (he : execOp a'.eval o = execOp a.eval o)
    (hw : Region.wanted o (yielded ops a'.tmps) = Region.wanted o (yielded ops a.tmps)) : MarksG P ops w0 D D' o v a' := by
  unfold MarksG at *; rw [he, hw]; exact h
def compatG (i j : Nat) : Bool :=
  match j with
  | 0 => Nat.beq i 0 || Nat.beq i 1 || Nat.beq i 4
  | 1 => Nat.beq i 0 || Nat.beq i 1 || Nat.beq i 4
  | 3 => Nat.beq i 0 || Nat.beq i 1 || Nat.beq i 4 || Nat.beq i 3 || Nat.beq i 5 || Nat.beq i 6
  | 4 => Nat.beq i 0 || Nat.beq i 1
  | 5 => Nat.beq i 0 || Nat.beq i 1
  | 6 => Nat.beq i 0 || Nat.beq i 1 || Nat.beq i 4 || Nat.beq i 5
  | _ => false
def pairOKG (md : Region.Mode) (ops : Array Oper) (ks ms : List Nat) (i j : Nat) : Bool :=
  !Nat.beq i j &&
  ((ms.getD j 0).testBit i || (match ops[i]? with
    | some oi => (match ops[j]? with | some oj => oi.apart ops oj && compatG (ks.getD i 2) (ks.getD j 2) | none => true)
    | none => true)) &&
  (match ops[i]? with | some oi => oi.after.all (fun e => !Region.binds md e || !Nat.beq e.on j) | none => true)
def mixOKG (md : Region.Mode) (ops : Array Oper) (ks p : List Nat) : Bool :=
  Region.noSelect ops && Nat.beq p.length ops.size && ((List.range ops.size).all fun q => p.any (Nat.beq q)) &&
  (let ms := masks md ops
   p.all (fun i => decide (i < ops.size) && (match ops[i]? with | some oi => oi.after.all (fun e => !Region.binds md e || (!Nat.beq e.on i && decide (e.on < ops.size))) | none => true)) &&
   pairsOK (pairOKG md ops ks ms) p)
def PairG (md : Region.Mode) (ops : Array Oper) (ks : List Nat) (i j : Nat) : Prop :=
  i ≠ j ∧ (∀ oi oj, ops[i]? = some oi → ops[j]? = some oj → Before md ops j i ∨ (oi.apart ops oj = true ∧ compatG (ks.getD i 2) (ks.getD j 2) = true)) ∧
  ∀ oi, ops[i]? = some oi → ∀ e ∈ oi.after, Region.binds md e = true → e.on ≠ j
theorem pairOKG_spec {ks : List Nat} {i j : Nat} (h : pairOKG md ops ks (masks md ops) i j = true) : PairG md ops ks i j := by
  unfold pairOKG at h
  simp only [Bool.and_eq_true, Bool.or_eq_true, Bool.not_eq_true'] at h
  obtain ⟨⟨h1, h2⟩, h3⟩ := h
  refine ⟨nbeq_ne h1, fun oi oj hi hj => ?_, fun oi hi e he hb => ?_⟩
  · rcases h2 with h2 | h2
    · exact .inl (masks_spec h2)
    · rw [hi, hj] at h2
      simp only [Bool.and_eq_true] at h2
      exact .inr h2
  · rw [hi] at h3
    simp only [Array.all_eq_true_iff_forall_mem, Bool.or_eq_true, Bool.not_eq_true'] at h3
    exact nbeq_ne ((h3 e he).resolve_left (by simp [hb]))
theorem mixOKG_spec {ks p : List Nat} (h : mixOKG md ops ks p = true) : Region.noSelect ops = true ∧ p.length = ops.size ∧ (∀ q, q < ops.size → q ∈ p) ∧
    (∀ i ∈ p, i < ops.size ∧ ∀ oi, ops[i]? = some oi → ∀ e ∈ oi.after, Region.binds md e = true → e.on ≠ i ∧ e.on < ops.size) ∧ p.Pairwise (PairG md ops ks) := by
  unfold mixOKG at h
  simp only [Bool.and_eq_true, List.all_eq_true, decide_eq_true_eq] at h
  obtain ⟨⟨⟨h1, h2⟩, h7⟩, h3, h4⟩ := h
  refine ⟨h1, Nat.eq_of_beq_eq_true h2, fun q hq => ?_, fun i hi => ⟨(h3 i hi).1, fun oi hoi e he hb => ?_⟩, (pairsOK_spec h4).imp pairOKG_spec⟩
  · obtain ⟨r, hr, hqr⟩ := List.any_eq_true.1 (h7 q (List.mem_range.2 hq))
    rw [Nat.eq_of_beq_eq_true hqr]; exact hr
  have h5 := (h3 i hi).2
  rw [hoi] at h5
  simp only [Array.all_eq_true_iff_forall_mem, Bool.or_eq_true, Bool.and_eq_true, Bool.not_eq_true', decide_eq_true_eq] at h5
  have h6 := (h5 e he).resolve_left (by simp [hb])
  exact ⟨nbeq_ne h6.1, h6.2⟩
def isN (k : Nat) : Prop := k = 3 ∨ k = 6
def MixG (P : Program) (ops : Array Oper) (w0 : World) (HB : List Ent) (K : Nat → Nat) (RR : Nat → Value → List Ent → Prop) (T : Act → World → Prop) : List Nat → Act → List Ent → List GEnt → Prop
  | [], a, X, D => ∀ w, StG w0 (HB ++ X) D w → T a w
  | i :: is, a, X, D => ∃ o, ops[i]? = some o ∧ (
      (K i < 2 ∧ ∃ v, ValG P ops w0 HB (K i) X o v a ∧ MixG P ops w0 HB K RR T is (a.put o.dst v) X D) ∨
      (isN (K i) ∧ (∀ Z w, Fresh w0 Z → St w0 (HB ++ zOf (K i) X Z) w → MakesL P ops o a (RR i) w) ∧ ∀ v E, Fresh w0 E → RR i v E → MixG P ops w0 HB K RR T is (a.put o.dst v) (X ++ E) D) ∨
      (K i = 5 ∧ ∃ R, (∀ w, MakesG P ops o a R w) ∧ ∀ v d, w0.heap.size ≤ d.g → R v d → MixG P ops w0 HB K RR T is (a.put o.dst v) X (d :: D)) ∨
      (K i = 4 ∧ ∃ v D', MarksG P ops w0 D D' o v a ∧ MixG P ops w0 HB K RR T is (a.put o.dst v) X D') ∨
      (K i = 8 ∧ ∃ R, (∀ w, StG w0 (HB ++ X) D w → MakesL P ops o a R w) ∧ ∀ v E, Fresh w0 E → R v E → MixG P ops w0 HB K RR T is (a.put o.dst v) (X ++ E) D))
theorem MixG.perm {K : Nat → Nat} {RR : Nat → Value → List Ent → Prop} {T : Act → World → Prop} : ∀ (is : List Nat) (a : Act) (X X' : List Ent) (D : List GEnt), X.Perm X' → MixG P ops w0 HB K RR T is a X D → MixG P ops w0 HB K RR T is a X' D
  | [], a, X, X', D, hp, h => fun w hs => h w (hs.perm (List.Perm.append_left HB hp.symm))
  | i :: is, a, X, X', D, hp, h => by
    obtain ⟨o, ho, h⟩ := h
    refine ⟨o, ho, ?_⟩
    rcases h with ⟨h1, v, h2, h3⟩ | ⟨h1, h2, h3⟩ | ⟨h1, R, h2, h3⟩ | ⟨h1, v, D', h2, h3⟩ | ⟨h1, R, h2, h3⟩
    · exact .inl ⟨h1, v, h2.perm hp, MixG.perm is _ X X' _ hp h3⟩
    · exact .inr (.inl ⟨h1, fun Z w hZ hw => h2 Z w hZ (hw.perm (List.Perm.append_left HB (zOf_perm hp.symm))), fun v E hE hR => MixG.perm is _ _ _ _ (List.Perm.append_right E hp) (h3 v E hE hR)⟩)
    · exact .inr (.inr (.inl ⟨h1, R, h2, fun v d hd hR => MixG.perm is _ _ _ _ hp (h3 v d hd hR)⟩))
    · exact .inr (.inr (.inr (.inl ⟨h1, v, D', h2, MixG.perm is _ _ _ _ hp h3⟩)))
    · exact .inr (.inr (.inr (.inr ⟨h1, R, fun w hw => h2 w (hw.perm (List.Perm.append_left HB hp.symm)), fun v E hE hR => MixG.perm is _ _ _ _ (List.Perm.append_right E hp) (h3 v E hE hR)⟩)))
theorem compatG_01 {i j : Nat} (h : compatG i j = true) (hj : j < 2) : i < 2 ∨ i = 4 := by
  unfold compatG at h
  match j, hj with
  | 0, _ => simp at h; omega
  | 1, _ => simp at h; omega
theorem compatG_45 {i j : Nat} (hj : j = 4 ∨ j = 5) (h : compatG i j = true) : i < 2 := by
  rcases hj with rfl | rfl <;> (simp [compatG] at h; omega)
theorem compatG_N {i j : Nat} (hj : isN j) (h : compatG i j = true) : i < 2 ∨ (isN i ∧ j = 3) ∨ i = 4 ∨ i = 5 := by
  unfold isN at *
  rcases hj with rfl | rfl <;> (simp [compatG] at h; omega)
theorem compatG_8 {i : Nat} (h : compatG i 8 = true) : False := by simp [compatG] at h
theorem MixG.first01 {K : Nat → Nat} {RR : Nat → Value → List Ent → Prop} {T : Act → World → Prop} (hsel : ∀ (j : Nat) (o : Oper) cs b, ops[j]? = some o → o.op ≠ .select cs b) {j : Nat} {oj : Oper} (hj : ops[j]? = some oj) (hk : K j < 2) (post : List Nat) :
    ∀ (pre : List Nat) (a : Act) (X : List Ent) (D : List GEnt), (∀ i oi, i ∈ pre → ops[i]? = some oi → oi.apart ops oj = true ∧ compatG (K i) (K j) = true) → MixG P ops w0 HB K RR T (pre ++ j :: post) a X D →
      ∃ v, ValG P ops w0 HB (K j) X oj v a ∧ MixG P ops w0 HB K RR T (pre ++ post) (a.put oj.dst v) X D
  | [], a, X, D, _, h => by
    obtain ⟨o, ho, h⟩ := h
    rw [hj] at ho; cases ho
    rcases h with ⟨_, v, h2, h3⟩ | ⟨h1, _⟩ | ⟨h1, _⟩ | ⟨h1, _⟩ | ⟨h1, _⟩
    · exact ⟨v, h2, h3⟩
    all_goals first | omega | (unfold isN at *; omega)
  | i :: pre, a, X, D, hap, h => by
    obtain ⟨oi, hi, h⟩ := h
    obtain ⟨hap1, hcomp⟩ := hap i oi List.mem_cons_self hi
    obtain ⟨h1, h2, h3⟩ := Oper.apart_spec hap1
    have hap' := fun k ok hk => hap k ok (List.mem_cons_of_mem _ hk)
    have hc := compatG_01 hcomp hk
    rcases h with ⟨hki, vi, hf, hs⟩ | ⟨hki, _⟩ | ⟨hki, _⟩ | ⟨hki, vi, Di, hw, hs⟩ | ⟨hki, _⟩
    · obtain ⟨vj, hfj, hsj⟩ := MixG.first01 hsel hj hk post pre (a.put oi.dst vi) X D hap' hs
      exact ⟨vj, hfj.of_same (execOp_put oj (fun cs b => hsel j oj cs b hj) a oi.dst vi h1).symm (wanted_put oj a oi.dst vi h1).symm, oi, hi,
        .inl ⟨hki, vi, hf.of_same (execOp_put oi (fun cs b => hsel i oi cs b hi) a oj.dst vj h3) (wanted_put oi a oj.dst vj h3), by rw [← Act.put_comm a vi vj h2]; exact hsj⟩⟩
    · unfold isN at hki; omega
    · omega
    · obtain ⟨vj, hfj, hsj⟩ := MixG.first01 hsel hj hk post pre (a.put oi.dst vi) X Di hap' hs
      exact ⟨vj, hfj.of_same (execOp_put oj (fun cs b => hsel j oj cs b hj) a oi.dst vi h1).symm (wanted_put oj a oi.dst vi h1).symm, oi, hi,
        .inr (.inr (.inr (.inl ⟨hki, vi, Di, hw.of_same (execOp_put oi (fun cs b => hsel i oi cs b hi) a oj.dst vj h3) (wanted_put oi a oj.dst vj h3), by rw [← Act.put_comm a vi vj h2]; exact hsj⟩)))⟩
    · omega
theorem MixG.first45 {K : Nat → Nat} {RR : Nat → Value → List Ent → Prop} {T : Act → World → Prop} (hsel : ∀ (j : Nat) (o : Oper) cs b, ops[j]? = some o → o.op ≠ .select cs b) {j : Nat} {oj : Oper} (hj : ops[j]? = some oj) (hk : K j = 4 ∨ K j = 5) (post : List Nat) :
    ∀ (pre : List Nat) (a : Act) (X : List Ent) (D : List GEnt), (∀ i oi, i ∈ pre → ops[i]? = some oi → oi.apart ops oj = true ∧ compatG (K i) (K j) = true) → MixG P ops w0 HB K RR T (pre ++ j :: post) a X D →
      (∃ R, (∀ w, MakesG P ops oj a R w) ∧ ∀ v d, w0.heap.size ≤ d.g → R v d → MixG P ops w0 HB K RR T (pre ++ post) (a.put oj.dst v) X (d :: D)) ∨
      (∃ v D', MarksG P ops w0 D D' oj v a ∧ MixG P ops w0 HB K RR T (pre ++ post) (a.put oj.dst v) X D')
  | [], a, X, D, _, h => by
    obtain ⟨o, ho, h⟩ := h
    rw [hj] at ho; cases ho
    rcases h with ⟨h1, _⟩ | ⟨h1, _⟩ | ⟨_, R, h2, h3⟩ | ⟨_, v, D', h2, h3⟩ | ⟨h1, _⟩
    · omega
    · unfold isN at h1; omega
    · exact .inl ⟨R, h2, h3⟩
    · exact .inr ⟨v, D', h2, h3⟩
    · omega
  | i :: pre, a, X, D, hap, h => by
    obtain ⟨oi, hi, h⟩ := h
    obtain ⟨hap1, hcomp⟩ := hap i oi List.mem_cons_self hi
    obtain ⟨h1, h2, h3⟩ := Oper.apart_spec hap1
    have hap' := fun k ok hk => hap k ok (List.mem_cons_of_mem _ hk)
    have hc := compatG_45 hk hcomp
    have ej := fun v => (execOp_put oj (fun cs b => hsel j oj cs b hj) a oi.dst v h1).symm
    have wj := fun v => (wanted_put oj a oi.dst v h1).symm
    have ei := fun v => execOp_put oi (fun cs b => hsel i oi cs b hi) a oj.dst v h3
    have wi := fun v => wanted_put oi a oj.dst v h3
    rcases h with ⟨hki, vi, hf, hs⟩ | ⟨hki, _⟩ | ⟨hki, _⟩ | ⟨hki, _⟩ | ⟨hki, _⟩
    · rcases MixG.first45 hsel hj hk post pre (a.put oi.dst vi) X D hap' hs with ⟨R, hm, hsj⟩ | ⟨vj, Dj, hm, hsj⟩
      · exact .inl ⟨R, fun w => (hm w).of_same (ej vi) (wj vi), fun v d hd hR => ⟨oi, hi, .inl ⟨hki, vi, hf.of_same (ei v) (wi v), by rw [← Act.put_comm a vi v h2]; exact hsj v d hd hR⟩⟩⟩
      · exact .inr ⟨vj, Dj, hm.of_same (ej vi) (wj vi), oi, hi, .inl ⟨hki, vi, hf.of_same (ei vj) (wi vj), by rw [← Act.put_comm a vi vj h2]; exact hsj⟩⟩
    · unfold isN at hki; omega
    · omega
    · omega
    · omega
theorem MixG.firstN {K : Nat → Nat} {RR : Nat → Value → List Ent → Prop} {T : Act → World → Prop} (hsel : ∀ (j : Nat) (o : Oper) cs b, ops[j]? = some o → o.op ≠ .select cs b) {j : Nat} {oj : Oper} (hj : ops[j]? = some oj) (hk : isN (K j)) (post : List Nat) :
    ∀ (pre : List Nat) (a : Act) (X : List Ent) (D : List GEnt), (∀ i oi, i ∈ pre → ops[i]? = some oi → oi.apart ops oj = true ∧ compatG (K i) (K j) = true) → MixG P ops w0 HB K RR T (pre ++ j :: post) a X D →
      ((∃ Z w, Fresh w0 (X ++ Z) ∧ St w0 (HB ++ (X ++ Z)) w) → ∀ Z w, Fresh w0 Z → St w0 (HB ++ zOf (K j) X Z) w → MakesL P ops oj a (RR j) w) ∧
        ∀ v E, Fresh w0 E → RR j v E → MixG P ops w0 HB K RR T (pre ++ post) (a.put oj.dst v) (X ++ E) D
  | [], a, X, D, _, h => by
    obtain ⟨o, ho, h⟩ := h
    rw [hj] at ho; cases ho
    rcases h with ⟨h1, _⟩ | ⟨_, h2, h3⟩ | ⟨h1, _⟩ | ⟨h1, _⟩ | ⟨h1, _⟩
    · unfold isN at hk; omega
    · exact ⟨fun _ => h2, h3⟩
    all_goals (unfold isN at hk; omega)
  | i :: pre, a, X, D, hap, h => by
    obtain ⟨oi, hi, h⟩ := h
    obtain ⟨hap1, hcomp⟩ := hap i oi List.mem_cons_self hi
    obtain ⟨h1, h2, h3⟩ := Oper.apart_spec hap1
    have hap' := fun k ok hk => hap k ok (List.mem_cons_of_mem _ hk)
    have hc := compatG_N hk hcomp
    have ej := fun v => (execOp_put oj (fun cs b => hsel j oj cs b hj) a oi.dst v h1).symm
    have wj := fun v => (wanted_put oj a oi.dst v h1).symm
    have ei := fun v => execOp_put oi (fun cs b => hsel i oi cs b hi) a oj.dst v h3
    have wi := fun v => wanted_put oi a oj.dst v h3
    rcases h with ⟨hki, vi, hf, hs⟩ | ⟨hki, hm, hs⟩ | ⟨hki, R, hm, hs⟩ | ⟨hki, vi, Di, hw, hs⟩ | ⟨hki, _⟩
    · obtain ⟨hmj, hsj⟩ := MixG.firstN hsel hj hk post pre (a.put oi.dst vi) X D hap' hs
      refine ⟨fun hex Z w hZ hst => (hmj hex Z w hZ hst).of_same (ej vi) (wj vi), fun v E hE hR => ⟨oi, hi, .inl ⟨hki, vi, ?_, ?_⟩⟩⟩
      · exact (hf.of_same (ei v) (wi v)).more hE
      · rw [← Act.put_comm a vi v h2]; exact hsj v E hE hR
    · have rec_ := fun v E (hE : Fresh w0 E) (hR : RR i v E) => MixG.firstN hsel hj hk post pre (a.put oi.dst v) (X ++ E) D hap' (hs v E hE hR)
      have hc2 : K j ≠ 6 := by unfold isN at *; omega
      refine ⟨fun hex Z w hZ hst => ?_, fun v E hE hR => ⟨oi, hi, .inr (.inl ⟨hki, fun Z w hZ hst => ?_, fun vi Ei hEi hRi => ?_⟩)⟩⟩
      · obtain ⟨Z1, w1, hZ1, hs1⟩ := hex
        have hone : ∃ v E w', RR i v E ∧ Fresh w1 E ∧ St w1 E w' := by
          by_cases h6 : K i = 6
          · refine (hm Z1 w1 (fun e he => hZ1 e (List.mem_append.2 (.inr he))) ?_).one
            unfold zOf; rw [if_pos h6]; exact hs1
          · refine (hm (X ++ Z1) w1 hZ1 ?_).one
            unfold zOf; rw [if_neg h6]; exact hs1
        obtain ⟨vi, Ei, w', hRi, hEi, hst'⟩ := hone
        have hEi0 : Fresh w0 Ei := fun e he => Nat.le_trans hs1.size (hEi e he)
        have hall := st_call hs1 hst' hEi
        have hex' : ∃ Z w, Fresh w0 ((X ++ Ei) ++ Z) ∧ St w0 (HB ++ ((X ++ Ei) ++ Z)) w := by
          refine ⟨Z1, w', fun e he => ?_, hall.perm ?_⟩
          · simp only [List.append_assoc, List.mem_append] at he
            rcases he with he | he | he
            · exact hZ1 e (List.mem_append.2 (.inl he))
            · exact hEi0 e he
            · exact hZ1 e (List.mem_append.2 (.inr he))
          · simp only [List.append_assoc]
            exact List.Perm.append_left HB (List.Perm.append_left X List.perm_append_comm)
        refine ((rec_ vi Ei hEi0 hRi).1 hex' Z w hZ ?_).of_same (ej vi) (wj vi)
        unfold zOf at hst ⊢
        rw [if_neg hc2] at hst ⊢; exact hst
      · by_cases h6 : K i = 6
        · unfold zOf at hst; rw [if_pos h6] at hst
          refine (hm (E ++ Z) w (hE.app hZ) ?_).of_same (ei v) (wi v)
          unfold zOf; rw [if_pos h6, ← List.append_assoc X]; exact hst
        · unfold zOf at hst; rw [if_neg h6] at hst
          refine (hm Z w hZ ?_).of_same (ei v) (wi v)
          unfold zOf; rw [if_neg h6]; exact hst
      · have := (rec_ vi Ei hEi hRi).2 v E hE hR
        rw [Act.put_comm a vi v h2] at this
        refine MixG.perm _ _ _ _ _ ?_ this
        rw [List.append_assoc, List.append_assoc]
        exact List.Perm.append_left X List.perm_append_comm
    · have rec_ := fun v d (hd : w0.heap.size ≤ d.g) (hR : R v d) => MixG.firstN hsel hj hk post pre (a.put oi.dst v) X (d :: D) hap' (hs v d hd hR)
      refine ⟨fun hex Z w hZ hst => ?_, fun v E hE hR => ⟨oi, hi, .inr (.inr (.inl ⟨hki, R, fun w => (hm w).of_same (ei v) (wi v), fun vi d hd hRi => ?_⟩))⟩⟩
      · obtain ⟨Z1, w1, hZ1, hs1⟩ := hex
        obtain ⟨⟨vi, d, w', _, hRi, hd, _, _⟩, _⟩ := hm w1
        exact ((rec_ vi d (Nat.le_trans hs1.size hd) hRi).1 ⟨Z1, w1, hZ1, hs1⟩ Z w hZ hst).of_same (ej vi) (wj vi)
      · have := (rec_ vi d hd hRi).2 v E hE hR
        rw [Act.put_comm a vi v h2] at this; exact this
    · obtain ⟨hmj, hsj⟩ := MixG.firstN hsel hj hk post pre (a.put oi.dst vi) X Di hap' hs
      exact ⟨fun hex Z w hZ hst => (hmj hex Z w hZ hst).of_same (ej vi) (wj vi), fun v E hE hR => ⟨oi, hi, .inr (.inr (.inr (.inl ⟨hki, vi, Di, hw.of_same (ei v) (wi v), by rw [← Act.put_comm a vi v h2]; exact hsj v E hE hR⟩)))⟩⟩
    · unfold isN at *; omega
def kindsOKG (ks p : List Nat) : Bool := p.all fun i => Nat.blt (ks.getD i 2) 2 || (Nat.beq (ks.getD i 2) 3 || Nat.beq (ks.getD i 2) 6) || (Nat.beq (ks.getD i 2) 4 || Nat.beq (ks.getD i 2) 5) || Nat.beq (ks.getD i 2) 8
theorem kindsOKG_spec {ks p : List Nat} (h : kindsOKG ks p = true) : ∀ i ∈ p, ks.getD i 2 < 2 ∨ isN (ks.getD i 2) ∨ (ks.getD i 2 = 4 ∨ ks.getD i 2 = 5) ∨ ks.getD i 2 = 8 := fun i hi => by
  unfold kindsOKG at h
  have := List.all_eq_true.1 h i hi
  simp only [Bool.or_eq_true, Nat.blt_eq] at this
  unfold isN
  rcases this with ((h1 | h1 | h1) | h1 | h1) | h1
  · exact .inl h1
  · exact .inr (.inl (.inl (Nat.eq_of_beq_eq_true h1)))
  · exact .inr (.inl (.inr (Nat.eq_of_beq_eq_true h1)))
  · exact .inr (.inr (.inl (.inl (Nat.eq_of_beq_eq_true h1))))
  · exact .inr (.inr (.inl (.inr (Nat.eq_of_beq_eq_true h1))))
  · exact .inr (.inr (.inr (Nat.eq_of_beq_eq_true h1)))
theorem wpAny_of_mixG {Q : Exit → Act → World → Prop} {RR : Nat → Value → List Ent → Prop} {ks p : List Nat} (hks : ∀ i ∈ p, ks.getD i 2 < 2 ∨ isN (ks.getD i 2) ∨ (ks.getD i 2 = 4 ∨ ks.getD i 2 = 5) ∨ ks.getD i 2 = 8) (hns : Region.noSelect ops = true) (hself : ∀ i ∈ p, i < ops.size ∧ ∀ oi, ops[i]? = some oi → ∀ e ∈ oi.after, Region.binds md e = true → e.on ≠ i ∧ e.on < ops.size) :
    ∀ (n : Nat) (is : List Nat) (listed : Array Bool) (a : Act) (w : World) (X : List Ent) (D : List GEnt), is.length = n → is.Pairwise (PairG md ops ks) → (∀ i ∈ is, i ∈ p) → Lists ops.size md ops is listed → MixG P ops w0 HB (ks.getD · 2) RR (Q .normal) is a X D → Fresh w0 X → StG w0 (HB ++ X) D w →
      wpAny P md ops Q n listed a w := by
  have hsel := Region.noSelect_spec hns
  intro n
  induction n with
  | zero =>
    intro is listed a w X D hlen _ _ hl hs hX hS
    obtain rfl : is = [] := List.length_eq_zero_iff.1 hlen
    exact wpAny_end hl (hs w hS)
  | succ n ih =>
    intro is listed a w X D hlen hpw hlt hl hs hX hS
    have hnd : is.Nodup := hpw.imp (fun h => h.1)
    refine ⟨fun hnone => ?_, fun j hj => ?_⟩
    · exfalso
      obtain ⟨i, is', rfl⟩ : ∃ i is', is = i :: is' := by
        cases is with
        | nil => simp at hlen
        | cons i is' => exact ⟨i, is', rfl⟩
      obtain ⟨him, hafter⟩ := hself i (hlt i List.mem_cons_self)
      have hi : ops[i]? = some ops[i] := Array.getElem?_eq_getElem him
      have hmem : i ∈ Region.ready md ops listed := by
        rw [mem_ready]
        refine ⟨(hl.2.1 i him).2 (.inl List.mem_cons_self), _, hi, fun e he hb => ?_⟩
        obtain ⟨hne, hon⟩ := hafter _ hi e he hb
        rw [getD_false_of (by rw [hl.1]; exact hon), hl.2.1 e.on hon]
        rintro (h | h)
        · rcases List.mem_cons.1 h with h | h
          · exact hne h
          · exact ((List.pairwise_cons.1 hpw).1 _ h).2.2 _ hi e he hb rfl
        · omega
      rw [hnone] at hmem
      cases hmem
    · obtain ⟨hjun, oj, hoj, hall⟩ := mem_ready.1 hj
      have hjs : j < ops.size := (Array.getElem?_eq_some_iff.1 hoj).1
      have hnw : ∀ i ∈ is, ¬ Before md ops j i := fun i hi hw => by
        have h1 := hw listed hl.2.2 (fun o ho' e he hb => by rw [hoj] at ho'; cases ho'; exact hall e he hb)
        have him := (hself i (hlt i hi)).1
        exact (getD_false_of (by rw [hl.1]; omega)).1 h1 ((hl.2.1 i him).2 (.inl hi))
      have hjin : j ∈ is := by
        rcases (hl.2.1 j hjs).1 hjun with h | h
        · exact h
        · omega
      obtain ⟨pre, post, rfl⟩ := List.append_of_mem hjin
      have hap : ∀ i oi, i ∈ pre → ops[i]? = some oi → oi.apart ops oj = true ∧ compatG (ks.getD i 2) (ks.getD j 2) = true := fun i oi hi hoi => by
        have hij := (List.pairwise_append.1 hpw).2.2 i hi j List.mem_cons_self
        rcases hij.2.1 oi oj hoi hoj with hw | hap
        · exact absurd hw (hnw i (by simp [hi]))
        · exact hap
      have hsub : (pre ++ post).Sublist (pre ++ j :: post) := List.Sublist.append_left (List.sublist_cons_self _ _) _
      have next := fun a' w' X' D' => ih (pre ++ post) (listed.setIfInBounds j true) a' w' X' D' (by simp at hlen ⊢; omega) (hpw.sublist hsub) (fun i hi => hlt i (hsub.subset hi)) (hl.next rfl hnd hjs (Nat.le_refl _) hj)
      have made : ∀ R : Value → List Ent → Prop, MakesL P ops oj a R w → (∀ v E, Fresh w0 E → R v E → MixG P ops w0 HB (ks.getD · 2) RR (Q .normal) (pre ++ post) (a.put oj.dst v) (X ++ E) D) → Go.wpOp P ops Q j (fun a w => wpAny P md ops Q n (listed.setIfInBounds j true) a w) a w := fun R hmk hs' => by
        obtain ⟨hr, hw⟩ := hmk
        unfold Go.wpOp
        simp only [hoj, hw, if_true, Oper.wp]
        refine .inl ?_
        have go : ∀ v E w', R v E → Fresh w E → St w E w' → wpAny P md ops Q n (listed.setIfInBounds j true) (a.put oj.dst v) w' := fun v E w' hR hE hw' => by
          have hE0 : Fresh w0 E := fun e he => Nat.le_trans hS.st.size (hE e he)
          refine next _ w' _ _ (hs' v E hE0 hR) (hX.app hE0) ?_
          rw [← List.append_assoc]; exact hS.call hw' hE
        rcases hr with ⟨v, E, w', hr, hR, hE, hw'⟩ | ⟨f, vs, hr, hc⟩
        · rw [hr]; exact go v E w' hR hE hw'
        · rw [hr]
          refine hc.mono ?_
          rintro e w'' ⟨v, E, rfl, hR, hE, hw'⟩
          exact go v E w'' hR hE hw'
      rcases hks j (hlt j hjin) with hk | hk | hk | hk
      · obtain ⟨vj, ⟨hw, hf⟩, hs'⟩ := MixG.first01 (K := (ks.getD · 2)) hsel hoj hk post pre a X D hap hs
        have hone : OneG P oj vj a w := by
          by_cases hk0 : ks.getD j 2 = 0
          · refine hf X w hX ?_
            rw [if_pos hk0]; exact hS.st
          · refine hf [] w Fresh.nil ?_
            rw [if_neg hk0, List.append_nil]; exact hS.st
        unfold Go.wpOp
        simp only [hoj, hw, if_true, Oper.wp]
        refine .inl ?_
        rcases hone with hr | ⟨f, vs, hr, hc⟩
        · rw [hr]; exact next _ w X D hs' hX hS
        · rw [hr]
          refine hc.mono ?_
          rintro e w'' ⟨rfl, hw'⟩
          refine next _ w'' X D hs' hX ?_
          have := hS.call hw' Fresh.nil
          rwa [List.append_nil] at this
      · obtain ⟨hf, hs'⟩ := MixG.firstN (K := (ks.getD · 2)) hsel hoj hk post pre a X D hap hs
        refine made _ ?_ hs'
        by_cases h6 : ks.getD j 2 = 6
        · refine hf ⟨[], w, by rw [List.append_nil]; exact hX, by rw [List.append_nil]; exact hS.st⟩ [] w Fresh.nil ?_
          unfold zOf; rw [if_pos h6, List.append_nil]; exact hS.st
        · refine hf ⟨[], w, by rw [List.append_nil]; exact hX, by rw [List.append_nil]; exact hS.st⟩ X w hX ?_
          unfold zOf; rw [if_neg h6]; exact hS.st
      · rcases MixG.first45 (K := (ks.getD · 2)) hsel hoj hk post pre a X D hap hs with ⟨R, hm, hs'⟩ | ⟨vj, D', ⟨hm, hw⟩, hs'⟩
        · obtain ⟨⟨v, d, w', hr, hR, hd, hl', hw'⟩, hw⟩ := hm w
          unfold Go.wpOp
          simp only [hoj, hw, if_true, Oper.wp]
          refine .inl ?_
          rw [hr]
          have hd0 := Nat.le_trans hS.st.size hd
          have h0 := hS.call hw' Fresh.nil
          rw [List.append_nil] at h0
          refine next _ w' X (d :: D) (hs' v d hd0 hR) hX ⟨h0.st, fun c hc => ?_⟩
          rcases List.mem_cons.1 hc with rfl | hc
          · exact ⟨hl', hd0, fun e he => by have := (hS.st.has e he).lt; omega⟩
          · exact h0.ds c hc
        · obtain ⟨w', hr, hS'⟩ := hm w _ hS
          unfold Go.wpOp
          simp only [hoj, hw, if_true, Oper.wp]
          refine .inl ?_
          rw [hr]
          exact next _ w' X D' hs' hX hS'
      · obtain rfl : pre = [] := by
          cases pre with
          | nil => rfl
          | cons i pre =>
            have him := (hself i (hlt i (by simp))).1
            have hcc := (hap i ops[i] List.mem_cons_self (Array.getElem?_eq_getElem him)).2
            rw [hk] at hcc
            exact (compatG_8 hcc).elim
        obtain ⟨o, ho, hseq⟩ := hs
        rw [hoj] at ho; cases ho
        rcases hseq with ⟨h1, _⟩ | ⟨h1, _⟩ | ⟨h1, _⟩ | ⟨h1, _⟩ | ⟨_, R, h2, h3⟩
        · have h1' : ks.getD j 2 < 2 := h1
          omega
        · have h1' : isN (ks.getD j 2) := h1
          unfold isN at h1'; omega
        · have h1' : ks.getD j 2 = 5 := h1
          omega
        · have h1' : ks.getD j 2 = 4 := h1
          omega
        · exact made R (h2 w hS) h3
def MixMG (P : Program) (ops : Array Oper) (w0 : World) (HB : List Ent) (T : Act → World → Prop) : List Nat → List (Value → List Ent → Prop) → List Oper → Act → List Ent → List GEnt → Prop
  | [], [], [], a, X, D => ∀ w, StG w0 (HB ++ X) D w → T a w
  | k :: ks, r :: rs, o :: rest, a, X, D => (k < 2 ∧ ∃ v, ValG P ops w0 HB k X o v a ∧ MixMG P ops w0 HB T ks rs rest (a.put o.dst v) X D) ∨
      (isN k ∧ (∀ Z w, Fresh w0 Z → St w0 (HB ++ zOf k X Z) w → MakesL P ops o a r w) ∧ ∀ v E, Fresh w0 E → r v E → MixMG P ops w0 HB T ks rs rest (a.put o.dst v) (X ++ E) D) ∨
      (k = 5 ∧ ∃ R, (∀ w, MakesG P ops o a R w) ∧ ∀ v d, w0.heap.size ≤ d.g → R v d → MixMG P ops w0 HB T ks rs rest (a.put o.dst v) X (d :: D)) ∨
      (k = 4 ∧ ∃ v D', MarksG P ops w0 D D' o v a ∧ MixMG P ops w0 HB T ks rs rest (a.put o.dst v) X D') ∨
      (k = 8 ∧ ∃ R, (∀ w, StG w0 (HB ++ X) D w → MakesL P ops o a R w) ∧ ∀ v E, Fresh w0 E → R v E → MixMG P ops w0 HB T ks rs rest (a.put o.dst v) (X ++ E) D)
  | _, _, _, _, _, _ => False
theorem MixMG.seqp {T : Act → World → Prop} {l : List Oper} {ks : List Nat} {rs : List (Value → List Ent → Prop)} : ∀ (p : List Nat) (a : Act) (X : List Ent) (D : List GEnt), (∀ i ∈ p, i < l.length) → MixMG P l.toArray w0 HB T (pickK ks p) (pickRL rs p) (pickO l p) a X D →
    MixG P l.toArray w0 HB (ks.getD · 2) (rs.getD · (fun _ _ => False)) T p a X D
  | [], _, _, _, _, h => h
  | i :: is, a, X, D, hp, h => by
    have hlt := hp i List.mem_cons_self
    have hi : l[i]? = some l[i] := List.getElem?_eq_getElem hlt
    unfold pickO pickK pickRL at h
    rw [hi] at h
    have rec_ : ∀ a X D, MixMG P l.toArray w0 HB T (pickK ks is) (pickRL rs is) (pickO l is) a X D → MixG P l.toArray w0 HB (ks.getD · 2) (rs.getD · (fun _ _ => False)) T is a X D := fun a X D h => MixMG.seqp is a X D (fun j hj => hp j (List.mem_cons_of_mem _ hj)) h
    refine ⟨l[i], by rw [List.getElem?_toArray]; exact hi, ?_⟩
    rcases h with ⟨h1, v, h2, h3⟩ | ⟨h1, h2, h3⟩ | ⟨h1, R, h2, h3⟩ | ⟨h1, v, D', h2, h3⟩ | ⟨h1, R, h2, h3⟩
    · exact .inl ⟨h1, v, h2, rec_ _ _ _ h3⟩
    · exact .inr (.inl ⟨h1, h2, fun v E hE hR => rec_ _ _ _ (h3 v E hE hR)⟩)
    · exact .inr (.inr (.inl ⟨h1, R, h2, fun v d hd hR => rec_ _ _ _ (h3 v d hd hR)⟩))
    · exact .inr (.inr (.inr (.inl ⟨h1, v, D', h2, rec_ _ _ _ h3⟩)))
    · exact .inr (.inr (.inr (.inr ⟨h1, R, h2, fun v E hE hR => rec_ _ _ _ (h3 v E hE hR)⟩)))
theorem wp_mixG {md0 : Md} {Q : Exit → Act → World → Prop} {id : Nat} {l : List Oper} {a : Act} {w : World} (hmix : P.follows .mixedOrders = true) (ks p : List Nat) (rs : List (Value → List Ent → Prop)) (hks : kindsOKG ks p = true) (ho : mixOKG .any l.toArray ks p = true)
    (hS : St w0 HB w.drew) (h : MixMG P l.toArray w0 HB (Q .normal) (pickK ks p) (pickRL rs p) (pickO l p) a [] []) (hok : OkR md0 l.toArray Q) : wpn md0 P (Code.region id l.toArray true) Q a w := by
  refine wpnFrom_start hok hmix ?_
  intro listed hl
  have hsz : l.toArray.size = l.length := by simp
  obtain ⟨hns, hlen, hall, hself, hpw⟩ := mixOKG_spec ho
  have := wpAny_of_mixG (P := P) (Q := Q) (ks := ks) (kindsOKG_spec hks) hns hself l.length p listed a w.drew [] [] (hlen.trans hsz) hpw (fun i hi => hi)
    ⟨hl.1, fun q hq => by
      rw [hl.2.1 q hq]
      have := hall q hq
      simp [this], hl.2.2⟩ (MixMG.seqp p a [] [] (fun i hi => by rw [← hsz]; exact (hself i hi).1) h) Fresh.nil ⟨by rw [List.append_nil]; exact hS, fun d hd => by cases hd⟩
  rw [hsz, Nat.sub_zero]
  exact this
end
section
variable {P : Program} {ops : Array Oper} {Q : Exit → Act → World → Prop} {n : Sz} {w0 : World} {L L' : List (Nat × Value)} {HB X : List Ent} {D : List GEnt}
variable {o : Oper} {rest : List Oper} {v u : Value} {x y z : Operand} {k m j : Nat} {t t' e : TypeId} {ks : List Nat} {kd : IntKind} {r : Value → List Ent → Prop} {rs : List (Value → List Ent → Prop)}
def TG (P : Program) (ops : Array Oper) (Q : Exit → Act → World → Prop) (n : Sz) (w0 : World) (HB : List Ent) (ks : List Nat) (rs : List (Value → List Ent → Prop)) (rest : List Oper) (L : List (Nat × Value)) (X : List Ent) (D : List GEnt) : Prop :=
  ∀ a, Fr n L a → MixMG P ops w0 HB (Q .normal) ks rs rest a X D
theorem TC.mixG {id : Nat} {l : List Oper} (HB : List Ent) (hmix : P.follows .mixedOrders = true) (ks p : List Nat) (rs : List (Value → List Ent → Prop)) (hks : kindsOKG ks p = true) (ho : mixOKG .any l.toArray ks p = true)
    (h : TG P l.toArray Q n w0 HB (pickK ks p) (pickRL rs p) (pickO l p) L [] []) (hok : OkR n.md l.toArray Q := by exact trivial) : TC P Q n w0 (.region id l.toArray true) L HB :=
  fun a w hf hs => wp_mixG hmix ks p rs hks ho hs.drew (h a hf) hok
theorem TG.nil (h : TE Q .normal n w0 L (HB ++ X)) : TG P ops Q n w0 HB [] [] [] L X D := fun a hf w hs => h a w hf hs.st
theorem TG.free (hg : Wants n ops L o) (hi : inside n o.dst = true) (h : ∀ w0, Gets P n w0 o L [] v) (hr : TG P ops Q n w0 HB ks rs rest (put L o.dst v) X D) : TG P ops Q n w0 HB (0 :: ks) (r :: rs) (o :: rest) L X D :=
  fun a hf => .inl ⟨by decide, v, ⟨hg a hf, fun Z w _ _ => .inl (h w a w hf (St.refl w))⟩, hr _ (hf.put o.dst v hi)⟩
theorem TG.gets (hg : Wants n ops L o) (hi : inside n o.dst = true) (h : ∀ Z, Fresh w0 Z → Gets P n w0 o L (HB ++ (X ++ Z)) v) (hr : TG P ops Q n w0 HB ks rs rest (put L o.dst v) X D) : TG P ops Q n w0 HB (1 :: ks) (r :: rs) (o :: rest) L X D :=
  fun a hf => .inl ⟨by decide, v, ⟨hg a hf, fun Z w hZ hS => .inl (by rw [if_neg (by decide)] at hS; exact h Z hZ a w hf hS)⟩, hr _ (hf.put o.dst v hi)⟩
theorem TG.call0 {f : FuncId} {xs : List Operand} {ts : Array TypeId} {vs : List Value} (hg : Wants n ops L o) (hi : inside n o.dst = true) (h : Enters P f)
    (ho : o.op = .call { callee := .value (.func f), args := xs.toArray, argTypes := ts }) (hx : evs L xs = some vs)
    (hc : ∀ Z w, Fresh w0 Z → St w0 (HB ++ (X ++ Z)) w → Calls P f vs.toArray w fun e w' => e = .returned v ∧ St w [] w')
    (hr : TG P ops Q n w0 HB ks rs rest (put L o.dst v) X D) : TG P ops Q n w0 HB (1 :: ks) (r :: rs) (o :: rest) L X D :=
  fun a hf => .inl ⟨by decide, v, ⟨hg a hf, fun Z w hZ hS => .inr (by rw [if_neg (by decide)] at hS; exact ⟨f, vs.toArray, run_enter h ho hf hx, hc Z w hZ hS⟩)⟩, hr _ (hf.put o.dst v hi)⟩
theorem TG.call6 {ι : Type} {f : FuncId} {xs : List Operand} {ts : Array TypeId} {vs : List Value} {V : ι → Value} {R : ι → Prop} {E : ι → List Ent} (hg : Wants n ops L o) (hi : inside n o.dst = true) (h : Enters P f)
    (ho : o.op = .call { callee := .value (.func f), args := xs.toArray, argTypes := ts }) (hx : evs L xs = some vs)
    (hc : ∀ Z w, Fresh w0 Z → St w0 (HB ++ (X ++ Z)) w → Calls P f vs.toArray w fun e w' => ∃ i, e = .returned (V i) ∧ R i ∧ Fresh w (E i) ∧ St w (E i) w')
    (hr : ∀ i, R i → Fresh w0 (E i) → TG P ops Q n w0 HB ks rs rest (put L o.dst (V i)) (X ++ E i) D) : TG P ops Q n w0 HB (6 :: ks) ((fun v e => ∃ i, R i ∧ v = V i ∧ e = E i) :: rs) (o :: rest) L X D :=
  fun a hf => .inr (.inl ⟨.inr rfl, fun Z w hZ hs => ⟨.inr ⟨f, vs.toArray, run_enter h ho hf hx, (hc Z w hZ hs).mono fun e w' ⟨i, he, hR, hE, hs'⟩ => ⟨V i, E i, he, ⟨i, hR, rfl, rfl⟩, hE, hs'⟩⟩, hg a hf⟩,
    fun v e hE ⟨i, hR, h1, h2⟩ => by subst h1; subst h2; exact hr i hR hE _ (hf.put o.dst _ hi)⟩)
/-- A call behind all else, which reads the marked block too. -/
theorem TG.call8 {ι : Type} {f : FuncId} {xs : List Operand} {ts : Array TypeId} {vs : List Value} {V : ι → Value} {R : ι → Prop} {E : ι → List Ent} (hg : Wants n ops L o) (hi : inside n o.dst = true) (h : Enters P f)
    (ho : o.op = .call { callee := .value (.func f), args := xs.toArray, argTypes := ts }) (hx : evs L xs = some vs)
    (hc : ∀ w, StG w0 (HB ++ X) D w → Calls P f vs.toArray w fun e w' => ∃ i, e = .returned (V i) ∧ R i ∧ Fresh w (E i) ∧ St w (E i) w')
    (hr : ∀ i, R i → Fresh w0 (E i) → TG P ops Q n w0 HB ks rs rest (put L o.dst (V i)) (X ++ E i) D) : TG P ops Q n w0 HB (8 :: ks) (r :: rs) (o :: rest) L X D :=
  fun a hf => .inr (.inr (.inr (.inr ⟨rfl, (fun v e => ∃ i, R i ∧ v = V i ∧ e = E i), fun w hs => ⟨.inr ⟨f, vs.toArray, run_enter h ho hf hx, (hc w hs).mono fun e w' ⟨i, he, hR, hE, hs'⟩ => ⟨V i, E i, he, ⟨i, hR, rfl, rfl⟩, hE, hs'⟩⟩, hg a hf⟩,
    fun v e hE ⟨i, hR, h1, h2⟩ => by subst h1; subst h2; exact hr i hR hE _ (hf.put o.dst _ hi)⟩)))
theorem run_buildS {len s : Nat} {ps : List (Nat × Operand)} {vs : List (Nat × Value)} {cells : Array Value} {zv : Value} {a : Act} {w : World} (hf : Fr n L a) (ho : o.op = .buildSlice t len ps.toArray)
    (h1 : P.underlying t = some (.slice e)) (hsz : (P.info? e).map (·.size) = some s) (hz : (P.info? e).bind (·.zero) = some zv) (hv : operVals L ps = some vs) (hlen : len * s ≤ 2 ^ 24) (hpos : (len * s = 0) = False)
    (hfill : Instr.fill (fun i => some (i * s, s)) ((Array.range (len * s)).map (zv.cells[· % zv.cells.size]!)) vs = some cells) :
    (execOp a.eval o).run P w = .ok (.value (.slice (some ⟨w.heap.size, 0, none⟩) len len)) (w.alloc (.cells cells e)) := by
  have hm := operVals_eval hf hv
  have hm2 : (ps.map fun (x : Nat × Operand) => match x with | (i, x) => (i, a.eval x)) = vs := hm
  simp only [execOp, ho]
  refine run_value ?_
  simp only [Instr.buildSlice, Sem.run_bind, run_under h1, Result.andThen_ok, run_size hsz, List.map_toArray, hm2]
  rw [if_neg (by omega), if_neg (by simp [hpos])]
  simp only [Sem.run_bind, run_zero hz, Result.andThen_ok, Sem.run_pure, hfill]
  simp [newRow, newObj, Sem.run_bind, Sem.run]
theorem TG.buildSlice {len s : Nat} {ps : List (Nat × Operand)} {vs : List (Nat × Value)} {cells : Array Value} {cs : List Value} {zv : Value} (hg : Wants n ops L o) (hi : inside n o.dst = true) (ho : o.op = .buildSlice t len ps.toArray)
    (h1 : P.underlying t = some (.slice e)) (hsz : (P.info? e).map (·.size) = some s) (hz : (P.info? e).bind (·.zero) = some zv) (hv : operVals L ps = some vs) (hlen : len * s ≤ 2 ^ 24) (hpos : (len * s = 0) = False)
    {tot : Nat} (hfill : Instr.fill (fun i => some (i * s, s)) ((Array.range (len * s)).map (zv.cells[· % zv.cells.size]!)) vs = some cells) (hcs : cells.toList = cs) (htot : cs.length = tot)
    (hr : ∀ g, w0.heap.size ≤ g → TG P ops Q n w0 HB ks rs rest (put L o.dst (.slice (some ⟨g, 0, none⟩) len len)) (X ++ [⟨g, e, cs, tot⟩]) D) :
    TG P ops Q n w0 HB (3 :: ks) ((fun v d => ∃ g, v = .slice (some ⟨g, 0, none⟩) len len ∧ d = [⟨g, e, cs, tot⟩]) :: rs) (o :: rest) L X D :=
  fun a hf => .inr (.inl ⟨.inl rfl, fun Z w hZ hs => by
    have hrun := run_buildS (w := w) hf ho h1 hsz hz hv hlen hpos hfill
    subst htot
    exact ⟨.inl ⟨_, _, _, hrun, ⟨_, rfl, rfl⟩, fresh_one (Nat.le_refl _), (St.refl w).alloc e cs cells hcs⟩, hg a hf⟩,
    fun v d hE ⟨g, h2, h3⟩ => by subst h2; subst h3; exact hr g (fresh_head hE) _ (hf.put o.dst _ hi)⟩)
theorem TG.build8 {len s : Nat} {ps : List (Nat × Operand)} {vs : List (Nat × Value)} {cells : Array Value} {cs : List Value} {zv : Value} (hg : Wants n ops L o) (hi : inside n o.dst = true) (ho : o.op = .buildSlice t len ps.toArray)
    (h1 : P.underlying t = some (.slice e)) (hsz : (P.info? e).map (·.size) = some s) (hz : (P.info? e).bind (·.zero) = some zv) (hv : operVals L ps = some vs) (hlen : len * s ≤ 2 ^ 24) (hpos : (len * s = 0) = False)
    {tot : Nat} (hfill : Instr.fill (fun i => some (i * s, s)) ((Array.range (len * s)).map (zv.cells[· % zv.cells.size]!)) vs = some cells) (hcs : cells.toList = cs) (htot : cs.length = tot)
    (hr : ∀ g, w0.heap.size ≤ g → TG P ops Q n w0 HB ks rs rest (put L o.dst (.slice (some ⟨g, 0, none⟩) len len)) (X ++ [⟨g, e, cs, tot⟩]) D) : TG P ops Q n w0 HB (8 :: ks) (r :: rs) (o :: rest) L X D :=
  fun a hf => .inr (.inr (.inr (.inr ⟨rfl, (fun v d => ∃ g, v = .slice (some ⟨g, 0, none⟩) len len ∧ d = [⟨g, e, cs, tot⟩]), fun w hs => by
    have hrun := run_buildS (w := w) hf ho h1 hsz hz hv hlen hpos hfill
    subst htot
    exact ⟨.inl ⟨_, _, _, hrun, ⟨_, rfl, rfl⟩, fresh_one (Nat.le_refl _), (St.refl w).alloc e cs cells hcs⟩, hg a hf⟩,
    fun v d hE ⟨g, h2, h3⟩ => by subst h2; subst h3; exact hr g (fresh_head hE) _ (hf.put o.dst _ hi)⟩)))
/-- A constant text's bytes, made anew. -/
theorem TG.buildG {len s : Nat} {ps : List (Nat × Operand)} {vs : List (Nat × Value)} {cells : Array Value} {cs : List Value} {zv : Value} (hg : Wants n ops L o) (hi : inside n o.dst = true) (ho : o.op = .buildSlice t len ps.toArray)
    (h1 : P.underlying t = some (.slice e)) (hsz : (P.info? e).map (·.size) = some s) (hz : (P.info? e).bind (·.zero) = some zv) (hv : operVals L ps = some vs) (hlen : len * s ≤ 2 ^ 24) (hpos : (len * s = 0) = False)
    (hfill : Instr.fill (fun i => some (i * s, s)) ((Array.range (len * s)).map (zv.cells[· % zv.cells.size]!)) vs = some cells) (hcs : cells = cs.toArray)
    (hr : ∀ g, w0.heap.size ≤ g → TG P ops Q n w0 HB ks rs rest (put L o.dst (.slice (some ⟨g, 0, none⟩) len len)) X (⟨g, e, cs, (0, 0)⟩ :: D)) : TG P ops Q n w0 HB (5 :: ks) (r :: rs) (o :: rest) L X D :=
  fun a hf => .inr (.inr (.inl ⟨rfl, fun v d => ∃ g, v = .slice (some ⟨g, 0, none⟩) len len ∧ d = ⟨g, e, cs, (0, 0)⟩, fun w => by
    have hrun := run_buildS (w := w) hf ho h1 hsz hz hv hlen hpos hfill
    subst hcs
    refine ⟨⟨_, ⟨w.heap.size, e, cs, (0, 0)⟩, _, hrun, ⟨_, rfl, rfl⟩, Nat.le_refl _, heap_alloc_new w _, ?_⟩, hg a hf⟩
    exact ((St.refl w).alloc e cs cs.toArray (by simp)).drop (Nat.le_refl _),
    fun v d hd ⟨g, h2, h3⟩ => by subst h2; subst h3; exact hr g hd _ (hf.put o.dst _ hi)⟩))
theorem st_free {H : List Ent} {w : World} {g k : Nat} (h : St w0 H w) (hg : w0.heap.size ≤ g) (hne : ∀ e ∈ H, e.g ≠ g) : St w0 H (w.freeze ⟨g, k, none⟩ 1) := by
  have hother : ∀ b, b ≠ g → (w.freeze ⟨g, k, none⟩ 1).heap[b]? = w.heap[b]? := by
    intro b hb
    unfold World.freeze
    rw [if_neg (by omega)]
    simp [Array.getElem?_modify, hb.symm]
  have hsize : (w.freeze ⟨g, k, none⟩ 1).heap.size = w.heap.size := by
    unfold World.freeze
    rw [if_neg (by omega)]
    simp
  exact ⟨by unfold World.freeze; rw [if_neg (by omega)]; exact h.os, by unfold World.freeze; rw [if_neg (by omega)]; exact h.tape, by unfold World.freeze; rw [if_neg (by omega)]; exact h.output, by rw [hsize]; exact h.size,
    fun c hc => (h.has c hc).of_block (hother _ (hne c hc)), fun b hb hne' => (hother b (by omega)).trans (h.old b hb hne'), h.apart⟩
/-- The text is marked. -/
theorem TG.mark {g ln cp : Nat} {cs : List Value} (hg : Wants n ops L o) (hi' : inside n o.dst = true) (ho : o.op = .convert t t x) (h1 : P.underlying t = some (.slice e)) (h2 : P.underlying e = some (.int .u8))
    (hx : ev L x = some (.slice (some ⟨g, 0, none⟩) ln cp))
    (hr : TG P ops Q n w0 HB ks rs rest (put L o.dst (.slice (some ⟨g, 0, none⟩) ln cp)) X [⟨g, e, cs, (cs.length, cs.length + 1)⟩]) : TG P ops Q n w0 HB (4 :: ks) (r :: rs) (o :: rest) L X [⟨g, e, cs, (0, 0)⟩] :=
  fun a hf => .inr (.inr (.inr (.inl ⟨rfl, _, [⟨g, e, cs, (cs.length, cs.length + 1)⟩], ⟨fun w H hs => by
    obtain ⟨hl, h3, h4⟩ := hs.ds _ (List.mem_singleton.2 rfl)
    have hc1 : w.heap[g]? = some (.cells cs.toArray e (0, 0)) := hl
    have hsh : w.shape? g = some (e, cs.length) := by simp [World.shape?, hc1]
    refine ⟨w.freeze ⟨g, cs.length, none⟩ 1, ?_, st_free hs.st h3 h4, fun d hd => ?_⟩
    · simp only [execOp, ho, hf.eval hx]
      refine run_value ?_
      simp [convert, Sem.run_bind, run_under h1, run_under h2, markStringish, shape, Sem.run, hsh, freeze]
    · rw [List.mem_singleton.1 hd]
      exact ⟨frozen_mark hc1, h3, h4⟩, hg a hf⟩, hr _ (hf.put o.dst _ hi')⟩)))
theorem GEnt.src {d : GEnt} {w : World} {W : List Int} {m : Nat} (h : d.lies w) (hc : d.cs = W.map (Value.int kd)) (hm : W.length = m) : Src w (some ⟨d.g, 0, none⟩) m kd W := by
  refine ⟨hm, .inr ⟨d.g, 0, rfl, h.lt, fun j hj => ?_⟩⟩
  have h2 : w.heap[d.g]? = some (.cells d.cs.toArray d.t d.fl) := h
  rw [hc] at h2
  have h3 : (W.map (Value.int kd))[j]? = some (.int kd (W.getD j 0)) := ints_get (by omega)
  simp [World.cell?, h2] at h3 ⊢
  exact h3
end
theorem St.madeB {w0 w w' : World} {HB H : List Ent} {e : Ent} (hs : St w0 (HB ++ H) w) (hw : St w [e] w') (hE : w.heap.size ≤ e.g) : St w0 (HB ++ e :: H) w' := (hs.made hw hE).perm List.perm_middle.symm
theorem seg_store {A B C V : List Value} {a : Nat} (ha : A.length = a) (hb : B.length = V.length) : (A ++ (B ++ C)).take a ++ V ++ (A ++ (B ++ C)).drop (a + V.length) = A ++ (V ++ C) := by
  subst ha
  rw [List.take_left, ← hb, ← List.drop_drop, List.drop_left, List.drop_left, List.append_assoc]
theorem seg_store2 {A0 A B C V : List Value} {a : Nat} (ha : A0.length + A.length = a) (hb : B.length = V.length) : (A0 ++ (A ++ (B ++ C))).take a ++ V ++ (A0 ++ (A ++ (B ++ C))).drop (a + V.length) = A0 ++ (A ++ (V ++ C)) := by
  have := seg_store (A := A0 ++ A) (B := B) (C := C) (V := V) (a := a) (by rw [List.length_append]; exact ha) hb
  simpa only [List.append_assoc] using this
/-! ### Bytes appended part by part -/
structure PV where
  A : Option Addr
  m : Nat
  c : Nat
  B : List Int
def catP (Vs : List PV) : List Int := Vs.flatMap (·.B)
/-- Bytes that lie as they are in every world in which the blocks H do. -/
def Reads (w0 : World) (H : List Ent) (A : Option Addr) (m : Nat) (B : List Int) : Prop := ∀ w Hx, Fresh w0 Hx → St w0 (H ++ Hx) w → Src w A m .u8 B
def PartsF (w0 : World) (H : List Ent) (A : Option Addr) (m : Nat) (Vs : List PV) : Prop :=
  Vs.length = m ∧ (m = 0 ∨ ∃ b off, A = some ⟨b, off, none⟩ ∧ ∀ w Hx, Fresh w0 Hx → St w0 (H ++ Hx) w → ∀ (i : Nat) (x : PV), Vs[i]? = some x → w.cell? ⟨b, off + i, none⟩ = some (.slice x.A x.m x.c)) ∧
    ∀ (i : Nat) (x : PV), Vs[i]? = some x → x.B.length = x.m ∧ Reads w0 H x.A x.m x.B
theorem catP_take {Vs : List PV} {i : Nat} {x : PV} (h : Vs[i]? = some x) : catP (Vs.take (i + 1)) = catP (Vs.take i) ++ x.B := by
  obtain ⟨hi, rfl⟩ := List.getElem?_eq_some_iff.1 h
  unfold catP
  rw [List.take_succ_eq_append_getElem hi, List.flatMap_append]; simp
theorem catP_le {Vs : List PV} {i : Nat} : (catP (Vs.take i)).length ≤ (catP Vs).length := by
  have h : catP Vs = catP (Vs.take i) ++ catP (Vs.drop i) := by unfold catP; rw [← List.flatMap_append, List.take_append_drop]
  rw [h, List.length_append]; omega
theorem PartsF.some_ {w0 : World} {H : List Ent} {A : Option Addr} {m i : Nat} {Vs : List PV} (h : PartsF w0 H A m Vs) (hi : i < m) : ∃ b off, A = some ⟨b, off, none⟩ ∧ ∀ w Hx, Fresh w0 Hx → St w0 (H ++ Hx) w → ∀ (i : Nat) (x : PV), Vs[i]? = some x → w.cell? ⟨b, off + i, none⟩ = some (.slice x.A x.m x.c) := h.2.1.resolve_left (by omega)
theorem PartsF.get {w0 : World} {H : List Ent} {A : Option Addr} {m i : Nat} {Vs : List PV} (h : PartsF w0 H A m Vs) (hi : i < m) : ∃ x, Vs[i]? = some x := ⟨_, List.getElem?_eq_getElem (by rw [h.1]; exact hi)⟩
theorem Src.reads {w0 : World} {H : List Ent} {A : Option Addr} {m : Nat} {B : List Int} (h : Src w0 A m .u8 B) (hH : Fresh w0 H) : Reads w0 H A m B := fun w Hx hx hs =>
  h.at_ hs fun b hb e he => (hH.app hx).ne hb e he
theorem Reads.more {w0 : World} {H E : List Ent} {A : Option Addr} {m : Nat} {B : List Int} (h : Reads w0 H A m B) (hE : Fresh w0 E) : Reads w0 (E ++ H) A m B := fun w Hx hx hs =>
  h w (E ++ Hx) (hE.app hx) (hs.perm (by rw [List.append_assoc]; exact (List.perm_append_comm_assoc E H Hx)))
theorem reads_ent {w0 : World} {H : List Ent} {e : Ent} {W : List Int} {m : Nat} (he : e ∈ H) (hc : e.cs = W.map (Value.int .u8)) (hm : W.length = m) : Reads w0 H (some ⟨e.g, 0, none⟩) m W := fun w Hx hx hs => by
  have hl := hs.has e (List.mem_append.2 (.inl he))
  obtain ⟨g, t, cs, tot⟩ := e
  subst hc
  exact src_ent hl hm
/-- A few parts in a block. -/
theorem parts_ent {w0 : World} {H : List Ent} {e : Ent} {Vs : List PV} {m : Nat} (he : e ∈ H) (hc : e.cs = Vs.map (fun x => Value.slice x.A x.m x.c)) (hm : Vs.length = m) (hv : ∀ x ∈ Vs, x.B.length = x.m ∧ Reads w0 H x.A x.m x.B) : PartsF w0 H (some ⟨e.g, 0, none⟩) m Vs :=
  ⟨hm, .inr ⟨e.g, 0, rfl, fun w Hx hx hs i x hi => by
    have hl := hs.has e (List.mem_append.2 (.inl he))
    refine hl.cell ?_
    rw [hc, Nat.zero_add, List.getElem?_map, hi]; rfl⟩, fun i x hi => hv x (List.mem_of_getElem? hi)⟩
/-- A few parts in a block, of a world in which all of them lie. -/
theorem parts_lies {w : World} {e : Ent} {Vs : List PV} {m : Nat} (hl : e.lies w) (hc : e.cs = Vs.map (fun x => Value.slice x.A x.m x.c)) (hm : Vs.length = m) (hv : ∀ x ∈ Vs, x.B.length = x.m ∧ Src w x.A x.m .u8 x.B) : PartsF w [] (some ⟨e.g, 0, none⟩) m Vs :=
  ⟨hm, .inr ⟨e.g, 0, rfl, fun w' Hx hx hs i x hi => by
    have h1 : w.cell? ⟨e.g, i, none⟩ = some (.slice x.A x.m x.c) := hl.cell (by rw [hc, List.getElem?_map, hi]; rfl)
    rw [Nat.zero_add]
    exact (hs.old_cell (ad := ⟨e.g, i, none⟩) hl.lt (hx.ne hl.lt)).trans h1⟩, fun i x hi => ⟨(hv x (List.mem_of_getElem? hi)).1, (hv x (List.mem_of_getElem? hi)).2.reads Fresh.nil⟩⟩
theorem lies_srcF {w : World} {g t tot m : Nat} {cs : List Value} {Fs : List FV} (h : Ent.lies ⟨g, t, cs, tot⟩ w) (hc : cs = flatF Fs) (hm : Fs.length = m) : SrcF w (some ⟨g, 0, none⟩) m Fs := ⟨hm, .inr ⟨g, 0, rfl, h.lt, fun i x hx j u hu => by
  subst hc
  rw [Nat.zero_add]
  exact h.cell (flatF_get hx hu)⟩⟩
end Go.Proofs.Ytclmgfcdnokaiaa
