/-
  A slice of the call's own whose elements are values of one cell each; blocks that a loop has made, one a round; three-number arrays.
-/
import Derived.Test.YtkgamkjdkapchaaStr
namespace Go.Proofs.Ytkgamkjdkapchaa
set_option linter.unusedVariables false
set_option linter.unusedSimpArgs false
set_option linter.unusedVariables false
open Go Go.RowKit
section
variable {P : Program} {ops : Array Oper} {Q : Exit → Act → World → Prop} {n : Sz} {w0 : World} {L L' : List (Nat × Value)} {H : List Ent}
variable {o : Oper} {rest : List Oper} {v u : Value} {x y z : Operand} {k m j : Nat} {t t' e : TypeId} {ks : List Nat} {kd : IntKind}
def OwnV (N : Nat) (t : TypeId) (v : Value) (vs : List Value) (He : List Ent) : Prop :=
  (v = .slice none 0 0 ∧ vs = [] ∧ He = []) ∨ ∃ g cap, v = .slice (some ⟨g, 0, none⟩) vs.length cap ∧ He = [⟨g, t, vs, cap⟩] ∧ N ≤ g ∧ vs.length ≤ cap ∧ cap ≤ maxLen
theorem OwnV.nil (N : Nat) (t : TypeId) : OwnV N t (.slice none 0 0) [] [] := .inl ⟨rfl, rfl, rfl⟩
theorem OwnV.new {N : Nat} {vs : List Value} {He : List Ent} (h : OwnV N t v vs He) : ∀ e ∈ He, N ≤ e.g := by
  rcases h with ⟨_, _, rfl⟩ | ⟨g, cap, _, rfl, hN, _⟩
  · intro e he; cases he
  · intro e he; rw [List.mem_singleton.1 he]; exact hN
theorem OwnV.form {N : Nat} {vs : List Value} {He : List Ent} (h : OwnV N t v vs He) : ∃ A c, v = .slice A vs.length c ∧ vs.length ≤ c ∧ c ≤ 9223372036854775807 := by
  rcases h with ⟨rfl, rfl, rfl⟩ | ⟨g, cap, rfl, rfl, hN, hc, hm⟩
  · exact ⟨none, 0, rfl, Nat.le_refl _, by omega⟩
  · exact ⟨_, cap, rfl, hc, by unfold maxLen at hm; omega⟩
/-- Where its elements lie. -/
theorem OwnV.cell {N m c : Nat} {A : Option Addr} {vs : List Value} {He : List Ent} {w : World} (h : OwnV N t (.slice A m c) vs He) (hs : ∀ e ∈ He, e.lies w) : m = vs.length ∧ (m = 0 ∨ ∃ g, A = some ⟨g, 0, none⟩ ∧ g < w.heap.size ∧ N ≤ g ∧ ∀ i u, vs[i]? = some u → w.cell? ⟨g, i, none⟩ = some u) := by
  rcases h with ⟨h1, rfl, rfl⟩ | ⟨g, cap, h1, rfl, hN, hc, hm⟩
  · cases h1; exact ⟨rfl, .inl rfl⟩
  · cases h1
    have hl := hs _ (List.mem_singleton.2 rfl)
    exact ⟨rfl, .inr ⟨g, rfl, hl.lt, hN, fun i u hu => hl.cell hu⟩⟩
theorem OwnV.row {w : World} {N : Nat} {vs : List Value} {He : List Ent} (h : OwnV N t v vs He) (hs : ∀ e ∈ He, e.lies w) : w.ownsRow N t 1 v vs.length vs := by
  rcases h with ⟨rfl, rfl, rfl⟩ | ⟨g, cap, rfl, rfl, hN, hc, hm⟩
  · exact ⟨by simp, .inl ⟨rfl, rfl⟩⟩
  · obtain ⟨cur, h1, h2, h3⟩ := hs _ (List.mem_singleton.2 rfl)
    refine ⟨by simp, .inr ⟨g, cap, cur, rfl, hN, h1, hc, hm, by simpa using h2, ?_⟩⟩
    apply List.ext_getElem?
    intro i
    simp only [List.getElem?_take, Nat.mul_one]
    by_cases hi : i < vs.length
    · rw [if_pos hi]
      have := h3 i _ (List.getElem?_eq_getElem hi)
      rw [List.getElem?_eq_getElem hi, Array.getElem?_toList]; exact this
    · rw [if_neg hi, List.getElem?_eq_none (by omega)]
theorem ownV_of_row {w : World} {N : Nat} {vs : List Value} (h : w.ownsRow N t 1 v vs.length vs) : ∃ He, OwnV N t v vs He ∧ (He = [] ∨ ∃ e, He = [e] ∧ e.lies w ∧ N ≤ e.g ∧ v.ownBlock = some e.g) := by
  rcases h.2 with ⟨rfl, h0⟩ | ⟨g, cap, cur, rfl, hN, h1, hc, hm, hsz, ht⟩
  · exact ⟨[], .inl ⟨rfl, List.length_eq_zero_iff.1 h0, rfl⟩, .inl rfl⟩
  · refine ⟨[⟨g, t, vs, cap⟩], .inr ⟨g, cap, rfl, rfl, hN, hc, hm⟩, .inr ⟨_, rfl, ⟨cur, h1, by simpa using hsz, ?_⟩, hN, rfl⟩⟩
    intro i u hu
    have hi : i < vs.length := (List.getElem?_eq_some_iff.1 hu).1
    have h2 : (cur.toList.take (vs.length * 1))[i]? = some u := by rw [ht]; exact hu
    simpa [List.getElem?_take, hi] using h2
/-- 'append' of one value onto a slice of the call's own. -/
theorem TL.appendOwnV {bytes g : Nat} {vs : List Value} {He : List Ent} {zv : Value} (hg : Wants n ops L o) (hi' : inside n o.dst = true) (ho : o.op = .call { callee := .builtin .append, args := #[x, y], argTypes := #[t, t] })
    (h1 : P.underlying t = some (.slice e)) (hz : (P.info? e).map (fun i => (i.zero, i.size, i.bytes)) = some (some zv, 1, bytes)) (hzc : zv.cells = #[zv])
    (hx : ev L x = some v) (hy : ev L y = some (.slice (some ⟨g, 0, none⟩) 1 1)) (hown : OwnV w0.heap.size e v vs He) (hsrc : ∀ w, St w0 (H ++ He) w → w.cell? ⟨g, 0, none⟩ = some u) (h1c : u.oneCell' = true)
    (h63 : vs.length + 1 ≤ 9223372036854775807) (hbytes : (vs.length + 1) * bytes ≤ 140737488355328)
    (hr : ∀ v' He', OwnV w0.heap.size e v' (vs ++ [u]) He' → TL P ops Q n w0 rest (put L o.dst v') (H ++ He')) : TL P ops Q n w0 (o :: rest) L (H ++ He) :=
  fun a w hf hs => wpL_wants hg.nd (hg a hf) fun K hK => by
    obtain ⟨i, hi1, hi2⟩ := Option.map_eq_some_iff.1 hz
    simp only [Prod.mk.injEq] at hi2
    obtain ⟨hz1, hz2, hz3⟩ := hi2
    have hrow := hown.row (w := w) hs.right
    have hB := hsrc w hs
    have hlen : (vs ++ [u]).length = vs.length + 1 := by simp
    have hcells : ∀ (j : Nat) (q : Value), [u][j]? = some q → w.cell? ((⟨g, 0, none⟩ : Addr).add j) = some q := by
      intro j q hq
      match j, hq with
      | 0, hq => simp at hq; subst hq; rw [addr_add]; exact hB
    obtain ⟨v', w', hrun, hrow', hgrown, hblk0, h6⟩ := run_append_own_at (P := P) w w0.heap.size t o.type e i zv 1 bytes h1 hi1 hz1 hz2 hz3 (by rw [hzc]; rfl) (by omega) v vs.length vs hrow ⟨g, 0, none⟩ 1 1 [u] rfl hcells
      (by intro q hq; rw [List.mem_singleton.1 hq]; exact h1c) (by unfold maxLen; omega) hbytes hs.size
    have hrun' : (execOp a.eval o).run P w = .ok (.value v') w' := by
      simp only [execOp, ho, resolve, invoke, builtin, Sem.run_bind, Sem.run_pure, Result.andThen_ok, List.map_toArray, List.map_cons, List.map_nil, hf.eval hx, hf.eval hy, hrun]
    unfold Oper.wp; rw [hrun']
    rw [← hlen] at hrow'
    obtain ⟨He', hown', hHe⟩ := ownV_of_row hrow'
    have hblk : v'.ownBlock = v.ownBlock ∨ v'.ownBlock = some w.heap.size := h6
    refine hK _ _ (hr v' He' hown' _ _ (hf.put o.dst _ hi') (St.regrow hs hgrown ?_ ?_ ?_ ?_))
    · rcases hown with ⟨rfl, rfl, rfl⟩ | ⟨g, cap, rfl, rfl, _⟩
      · simp
      · simp [Value.ownBlock]
    · rcases hown with ⟨rfl, rfl, rfl⟩ | ⟨g, cap, rfl, rfl, hN, _⟩
      · simp [Value.ownBlock]
      · simp only [Value.ownBlock]; rintro b hb; cases hb; exact hN
    · rcases hown with ⟨rfl, rfl, rfl⟩ | ⟨g, cap, rfl, rfl, hN, _⟩
      · simp [Value.ownBlock]
      · intro c hc heq
        simp only [Value.ownBlock, Option.some.injEq] at heq
        exact (List.pairwise_append.1 hs.apart).2.2 c hc _ (List.mem_singleton.2 rfl) heq
    · rcases hHe with h | ⟨d, h, hd, hdN, hdv⟩
      · exact .inl h
      · refine .inr ⟨d, h, hd, hdN, ?_⟩
        rcases hblk with hb | hb
        · left; rw [← hdv, hb]
        · right; have := Option.some.inj (hb.symm.trans hdv); omega
/-! ### Blocks that a loop made: their contents, their numbers, their capacities -/

def cellsQ (qs : List (List Int × Nat × Nat)) : List Value := qs.map fun q => .slice (some ⟨q.2.1, 0, none⟩) q.1.length q.2.2
def blkQ (t : TypeId) (qs : List (List Int × Nat × Nat)) : List Ent := qs.map fun q => ⟨q.2.1, t, q.1.map (Value.int .u8), q.2.2⟩
def okQ (N : Nat) (qs : List (List Int × Nat × Nat)) : Prop := ∀ q ∈ qs, N ≤ q.2.1 ∧ q.1.length ≤ q.2.2
theorem okQ.nil (N : Nat) : okQ N [] := fun q h => by cases h
theorem okQ.snoc {N : Nat} {qs : List (List Int × Nat × Nat)} {q : (List Int × Nat × Nat)} (h : okQ N qs) (hq : N ≤ q.2.1 ∧ q.1.length ≤ q.2.2) : okQ N (qs ++ [q]) := fun r hr => by
  rcases List.mem_append.1 hr with hr | hr
  · exact h r hr
  · rw [List.mem_singleton.1 hr]; exact hq
theorem blkQ_fresh {qs : List (List Int × Nat × Nat)} (h : okQ w0.heap.size qs) : Fresh w0 (blkQ t qs) := fun e he => by
  obtain ⟨q, hq, rfl⟩ := List.mem_map.1 he
  exact (h q hq).1
theorem blkQ_snoc (t : TypeId) (qs : List (List Int × Nat × Nat)) (q : (List Int × Nat × Nat)) : blkQ t (qs ++ [q]) = blkQ t qs ++ [⟨q.2.1, t, q.1.map (Value.int .u8), q.2.2⟩] := by simp [blkQ]
theorem cellsQ_snoc (qs : List (List Int × Nat × Nat)) (q : (List Int × Nat × Nat)) : cellsQ (qs ++ [q]) = cellsQ qs ++ [.slice (some ⟨q.2.1, 0, none⟩) q.1.length q.2.2] := by simp [cellsQ]
theorem cellsQ_len (qs : List (List Int × Nat × Nat)) : (cellsQ qs).length = qs.length := by simp [cellsQ]
theorem blkQ_len (t : TypeId) (qs : List (List Int × Nat × Nat)) : (blkQ t qs).length = qs.length := by simp [blkQ]
theorem cellsQ_get {qs : List (List Int × Nat × Nat)} {i : Nat} {q : (List Int × Nat × Nat)} (h : qs[i]? = some q) : (cellsQ qs)[i]? = some (.slice (some ⟨q.2.1, 0, none⟩) q.1.length q.2.2) := by simp [cellsQ, h]
theorem blkQ_get {qs : List (List Int × Nat × Nat)} {i : Nat} {q : (List Int × Nat × Nat)} (h : qs[i]? = some q) : (blkQ t qs)[i]? = some ⟨q.2.1, t, q.1.map (Value.int .u8), q.2.2⟩ := by simp [blkQ, h]
theorem blkQ_set {qs : List (List Int × Nat × Nat)} {i : Nat} {q : (List Int × Nat × Nat)} : (blkQ t qs).set i ⟨q.2.1, t, q.1.map (Value.int .u8), q.2.2⟩ = blkQ t (qs.set i q) := by unfold blkQ; rw [List.map_set]
/-- The blocks as parts. -/
theorem partsQ {w : World} {N m c : Nat} {A : Option Addr} {qs : List (List Int × Nat × Nat)} {He : List Ent} (h : OwnV N e (.slice A m c) (cellsQ qs) He) (hs : ∀ d ∈ He, d.lies w) (hb : ∀ d ∈ blkQ t qs, d.lies w) (hq : okQ N qs) : PartsO w A m (qs.map (·.1)) := by
  obtain ⟨hm, hc⟩ := h.cell hs
  rw [cellsQ_len] at hm
  refine ⟨by rw [List.length_map, hm], ?_⟩
  rcases hc with hc | ⟨g, hA, hg, _, hcell⟩
  · exact .inl hc
  · refine .inr ⟨g, 0, hA, hg, fun i hi => ?_⟩
    have hlt : i < qs.length := by omega
    have hgi : qs[i]? = some qs[i] := List.getElem?_eq_getElem hlt
    have hlies := hb _ (List.mem_of_getElem? (blkQ_get (t := t) hgi))
    refine ⟨_, _, _, by rw [Nat.zero_add]; exact hcell i _ (cellsQ_get hgi), ?_, (hq _ (List.mem_of_getElem? hgi)).2⟩
    have hd : (qs.map (·.1)).getD i [] = qs[i].1 := by simp [List.getD_eq_getElem?_getD, hgi]
    rw [hd]
    exact src_ent hlies rfl
theorem St.none {w : World} (h : St w0 H w) (hF : Fresh w0 H) : St w0 [] w := St.left (H := []) h hF
theorem At.mem {off g : Nat} {ent : Ent} (hm : ent ∈ H) (hg : ent.g = g) (hc : ent.cs[off]? = some v) : At w0 H ⟨g, off, none⟩ v := fun w hs => by
  subst hg; exact (hs.has _ hm).cell hc
end
/-! ### Orders of lists -/
theorem perm_mid {α : Type} (A B C : List α) : (A ++ (B ++ C)).Perm ((A ++ C) ++ B) := by
  rw [List.append_assoc]; exact List.Perm.append_left A List.perm_append_comm
theorem perm_mid2 {α : Type} (A B C D : List α) : (A ++ (B ++ (C ++ D))).Perm ((A ++ (B ++ D)) ++ C) := by
  rw [List.append_assoc, List.append_assoc]
  exact List.Perm.append_left A (List.Perm.append_left B List.perm_append_comm)
theorem perm_end {α : Type} (a x : α) (B C D : List α) : ([a, x] ++ (B ++ (C ++ D))).Perm ([x] ++ (B ++ (C ++ (D ++ [a])))) := by
  have h := List.perm_append_comm (l₁ := [a]) (l₂ := [x] ++ (B ++ (C ++ D)))
  simpa [List.append_assoc] using h
theorem perm_reg {α : Type} (a b x : α) (Ho Ha bl Hl : List α) : (([x] ++ (Ho ++ (Ha ++ bl))) ++ (Hl ++ [a, b])).Perm (([a, b, x] ++ (Hl ++ (Ho ++ Ha))) ++ bl) := by
  have h1 : (([x] ++ (Ho ++ (Ha ++ bl))) ++ (Hl ++ [a, b])).Perm ((Hl ++ [a, b]) ++ ([x] ++ (Ho ++ (Ha ++ bl)))) := List.perm_append_comm
  have h2 : ((Hl ++ [a, b]) ++ ([x] ++ (Ho ++ (Ha ++ bl)))).Perm (([a, b] ++ Hl) ++ ([x] ++ (Ho ++ (Ha ++ bl)))) := List.Perm.append_right _ List.perm_append_comm
  have h3 : ([a, b] ++ ((Hl ++ [x]) ++ (Ho ++ (Ha ++ bl)))).Perm ([a, b] ++ (([x] ++ Hl) ++ (Ho ++ (Ha ++ bl)))) := List.Perm.append_left _ (List.Perm.append_right _ List.perm_append_comm)
  refine h1.trans (h2.trans ?_)
  have e1 : ([a, b] ++ Hl) ++ ([x] ++ (Ho ++ (Ha ++ bl))) = [a, b] ++ ((Hl ++ [x]) ++ (Ho ++ (Ha ++ bl))) := by simp
  have e2 : ([a, b, x] ++ (Hl ++ (Ho ++ Ha))) ++ bl = [a, b] ++ (([x] ++ Hl) ++ (Ho ++ (Ha ++ bl))) := by simp
  rw [e1, e2]; exact h3
theorem st_idx {α : Type} {pre l : List α} {j : Nat} {e : α} (h : l[j]? = some e) : (pre ++ l)[pre.length + j]? = some e := by
  rw [List.getElem?_append_right (by omega)]; simpa using h
theorem st_set {α : Type} {pre l : List α} {j : Nat} {x : α} : (pre ++ l).set (pre.length + j) x = pre ++ l.set j x := by
  rw [List.set_append_right _ _ (by omega)]; simp
theorem set_self {α : Type} {l : List α} {j : Nat} {x : α} (h : l[j]? = some x) : l.set j x = l := by
  obtain ⟨hl, rfl⟩ := List.getElem?_eq_some_iff.1 h
  exact List.set_getElem_self hl
theorem set_get {α : Type} {l : List α} {j : Nat} {x y : α} (h : l[j]? = some x) : (l.set j y)[j]? = some y := by
  obtain ⟨hl, _⟩ := List.getElem?_eq_some_iff.1 h
  simp [hl]
def shapeQ (qs : List (List Int × Nat × Nat)) : List (Nat × Nat × Nat) := qs.map fun q => (q.1.length, q.2)
theorem cellsQ_shape {rs qs : List (List Int × Nat × Nat)} (h : shapeQ rs = shapeQ qs) : cellsQ rs = cellsQ qs := by
  have e : ∀ l : List (List Int × Nat × Nat), cellsQ l = (shapeQ l).map fun s => Value.slice (some ⟨s.2.1, 0, none⟩) s.1 s.2.2 := fun l => by simp [cellsQ, shapeQ]
  rw [e, e, h]
theorem shapeQ_len {rs qs : List (List Int × Nat × Nat)} (h : shapeQ rs = shapeQ qs) : rs.length = qs.length := by
  have := congrArg List.length h
  simpa [shapeQ] using this
theorem shapeQ_set {rs : List (List Int × Nat × Nat)} {j : Nat} {D E : List Int} {g c : Nat} (h : rs[j]? = some (D, g, c)) (hE : E.length = D.length) : shapeQ (rs.set j (E, g, c)) = shapeQ rs := by
  unfold shapeQ
  rw [List.map_set]
  refine set_self ?_
  simp [h, hE]
theorem okQ_shape {N : Nat} {rs qs : List (List Int × Nat × Nat)} (h : shapeQ rs = shapeQ qs) (hq : okQ N qs) : okQ N rs := fun r hr => by
  obtain ⟨i, hi⟩ := List.mem_iff_getElem?.1 hr
  have h2 : (shapeQ rs)[i]? = some (r.1.length, r.2) := by simp [shapeQ, hi]
  rw [h] at h2
  simp only [shapeQ, List.getElem?_map, Option.map_eq_some_iff] at h2
  obtain ⟨q, hq1, hq2⟩ := h2
  simp only [Prod.mk.injEq] at hq2
  have h3 := hq q (List.mem_of_getElem? hq1)
  rw [hq2.2, hq2.1] at h3
  exact h3
theorem OwnV.at0 {N m c : Nat} {t : TypeId} {A : Option Addr} {vs : List Value} {He : List Ent} (h : OwnV N t (.slice A m c) vs He) (hm : 0 < vs.length) : ∃ g, A = some ⟨g, 0, none⟩ ∧ He = [⟨g, t, vs, c⟩] ∧ N ≤ g := by
  rcases h with ⟨_, h2, _⟩ | ⟨g, cap, h1, h2, h3, _⟩
  · rw [h2] at hm; exact absurd hm (by simp)
  · cases h1; exact ⟨g, rfl, h2, h3⟩
theorem flat_take200 {Ps : List (List Int)} : ∀ {k : Nat}, (∀ j, j < k → (Ps.getD j []).length ≤ 200) → (Ps.take k).flatten.length ≤ 200 * k
  | 0, _ => by simp
  | k + 1, h => by
    have ih := flat_take200 (k := k) (fun j hj => h j (by omega))
    have hk := h k (by omega)
    by_cases hl : k < Ps.length
    · have hf := flat_succ (i := k) (Ps := Ps) hl []
      simp only [List.nil_append] at hf
      rw [hf, List.length_append]; omega
    · rw [List.take_of_length_le (by omega)] at ih ⊢; omega
theorem take_snocP {Ps : List (List Int)} {k : Nat} (h : k < Ps.length) : Ps.take (k + 1) = Ps.take k ++ [Ps.getD k []] := by
  rw [List.take_add_one, List.getElem?_eq_getElem h]
  simp [List.getD_eq_getElem?_getD, List.getElem?_eq_getElem h]
theorem small200 {Ps : List (List Int)} {k : Nat} (h : ∀ j, j < k → (Ps.getD j []).length ≤ 200) (h2 : (Ps.getD k []).length ≤ 200) : ∀ j, j < k + 1 → (Ps.getD j []).length ≤ 200 := fun j hj => by
  by_cases hjk : j = k
  · rw [hjk]; exact h2
  · exact h j (by omega)
theorem len200 {qs rs : List (List Int × Nat × Nat)} {Ps : List (List Int)} {j n : Nat} {D : List Int} {g c : Nat} (hqm : qs.map (·.1) = Ps) (hsh : shapeQ rs = shapeQ qs) (hr : rs[j]? = some (D, g, c)) (hs : ∀ i, i < n → (Ps.getD i []).length ≤ 200) (hj : j < n) : D.length ≤ 200 := by
  have h2 : (shapeQ rs)[j]? = some (D.length, g, c) := by simp [shapeQ, hr]
  rw [hsh] at h2
  simp only [shapeQ, List.getElem?_map, Option.map_eq_some_iff] at h2
  obtain ⟨q, hq1, hq2⟩ := h2
  simp only [Prod.mk.injEq] at hq2
  have h3 := hs j hj
  have h4 : Ps.getD j [] = q.1 := by rw [← hqm]; simp [List.getD_eq_getElem?_getD, hq1]
  rw [h4] at h3
  omega
end Go.Proofs.Ytkgamkjdkapchaa
