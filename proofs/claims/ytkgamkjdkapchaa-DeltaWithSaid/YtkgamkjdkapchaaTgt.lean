/-
  Targets in ascending order, with the index of their command: the first overlap, the first gap.
-/
import Derived.Test.YtkgamkjdkapchaaOwnD
namespace Go.Proofs.Ytkgamkjdkapchaa
set_option linter.unusedVariables false
set_option linter.unusedSimpArgs false
set_option linter.unusedVariables false
open Go Go.RowKit
structure TV where
  o : Int
  l : Int
  x : Nat
instance : Inhabited TV := ⟨⟨0, 0, 0⟩⟩
def cellsT (t : TV) : List Value := [Value.int .i64 t.o, Value.int .i64 t.l, Value.int .i64 t.x]
def flatT (Ts : List TV) : List Value := Ts.flatMap cellsT
theorem flatT_len (Ts : List TV) : (flatT Ts).length = Ts.length * 3 := by
  induction Ts with
  | nil => rfl
  | cons x l ih => unfold flatT at ih ⊢; rw [List.flatMap_cons, List.length_append, ih]; show 3 + _ = _; simp only [List.length_cons]; omega
theorem cellsT_len (x : TV) : (cellsT x).length = 3 := rfl
def leT (x y : TV) : Prop := x.o ≤ y.o
theorem flatT_app (Ts Es : List TV) : flatT (Ts ++ Es) = flatT Ts ++ flatT Es := by unfold flatT; rw [List.flatMap_append]
theorem flatT_one (x : TV) : flatT [x] = cellsT x := by unfold flatT; simp
theorem flatT_get : ∀ {Ts : List TV} {i : Nat} {x : TV} {j : Nat} {u : Value}, Ts[i]? = some x → (cellsT x)[j]? = some u → (flatT Ts)[3 * i + j]? = some u
  | [], i, x, j, u, h, _ => by simp at h
  | y :: l, 0, x, j, u, h, hu => by
    simp at h; subst h
    have hj : j < 3 := (List.getElem?_eq_some_iff.1 hu).1
    show (cellsT y ++ flatT l)[3 * 0 + j]? = some u
    rw [List.getElem?_append_left (by show _ < 3; omega)]
    simpa using hu
  | y :: l, i + 1, x, j, u, h, hu => by
    show (cellsT y ++ flatT l)[3 * (i + 1) + j]? = some u
    rw [List.getElem?_append_right (by show 3 ≤ _; omega)]
    show (flatT l)[3 * (i + 1) + j - 3]? = some u
    rw [show 3 * (i + 1) + j - 3 = 3 * i + j by omega]
    exact flatT_get (by simpa using h) hu
theorem flatT_one' (Ts : List TV) : ∀ u ∈ flatT Ts, u.oneCell' = true := fun u hu => by
  unfold flatT at hu
  obtain ⟨x, hx, hu⟩ := List.mem_flatMap.1 hu
  unfold cellsT at hu
  simp only [List.mem_cons, List.not_mem_nil, or_false] at hu
  rcases hu with rfl | rfl | rfl <;> rfl
/-- The targets of commands, in their order. -/
def tvA : Nat → List CV → List TV
  | _, [] => []
  | i, c :: Cs => ⟨c.t, lenV c.k c.l c.m, i⟩ :: tvA (i + 1) Cs
abbrev tvOf (Cs : List CV) : List TV := tvA 0 Cs
theorem tvA_len : ∀ (i : Nat) (Cs : List CV), (tvA i Cs).length = Cs.length
  | _, [] => rfl
  | i, c :: Cs => by simp [tvA, tvA_len (i + 1) Cs]
theorem tvA_get : ∀ {i : Nat} {Cs : List CV} {j : Nat} {c : CV}, Cs[j]? = some c → (tvA i Cs)[j]? = some ⟨c.t, lenV c.k c.l c.m, i + j⟩
  | i, c' :: Cs, 0, c, h => by simp at h; subst h; rfl
  | i, c' :: Cs, j + 1, c, h => by
    have := tvA_get (i := i + 1) (Cs := Cs) (j := j) (c := c) (by simpa using h)
    rw [show i + (j + 1) = i + 1 + j by omega]
    simpa [tvA] using this
theorem tvA_of : ∀ {i : Nat} {Cs : List CV} {t : TV}, t ∈ tvA i Cs → ∃ (j : Nat) (c : CV), Cs[j]? = some c ∧ t = ⟨c.t, lenV c.k c.l c.m, i + j⟩
  | i, c :: Cs, t, h => by
    rcases List.mem_cons.1 h with rfl | h
    · exact ⟨0, c, rfl, rfl⟩
    · obtain ⟨j, c', h1, h2⟩ := tvA_of h
      exact ⟨j + 1, c', by simpa using h1, by rw [h2]; congr 1; omega⟩
theorem tvA_app : ∀ (i : Nat) (Cs Es : List CV), tvA i (Cs ++ Es) = tvA i Cs ++ tvA (i + Cs.length) Es
  | i, [], Es => by simp [tvA]
  | i, c :: Cs, Es => by simp [tvA, tvA_app (i + 1) Cs Es, Nat.add_comm, Nat.add_left_comm]
/-- The targets that are there after i rounds. -/
def stT (Cs : List CV) (m i : Nat) : List TV := tvA 0 (Cs.take i) ++ List.replicate (m - i) ⟨0, 0, 0⟩
theorem stT_zero (Cs : List CV) (m : Nat) : stT Cs m 0 = List.replicate m ⟨0, 0, 0⟩ := by simp [stT, tvA]
theorem stT_rep (Cs : List CV) (m : Nat) : (List.replicate m [Value.int .i64 0, Value.int .i64 0, Value.int .i64 0]).flatten = flatT (stT Cs m 0) := by
  rw [stT_zero]
  induction m with
  | zero => rfl
  | succ m ih => rw [List.replicate_succ, List.replicate_succ, List.flatten_cons, ih]; unfold flatT; rw [List.flatMap_cons]; rfl
theorem stT_all {Cs : List CV} {m : Nat} (hl : Cs.length = m) : stT Cs m m = tvOf Cs := by unfold stT; rw [List.take_of_length_le (by omega)]; simp
theorem stT_len {Cs : List CV} {m i : Nat} (hl : Cs.length = m) (hi : i ≤ m) : (stT Cs m i).length = m := by
  unfold stT; rw [List.length_append, tvA_len, List.length_replicate, List.length_take]; omega
theorem stT_step {Cs : List CV} {m i : Nat} {c : CV} (hl : Cs.length = m) (hc : Cs[i]? = some c) :
    (flatT (stT Cs m i)).take (3 * i) ++ cellsT ⟨c.t, lenV c.k c.l c.m, i⟩ ++ (flatT (stT Cs m i)).drop (3 * i + 3) = flatT (stT Cs m (i + 1)) := by
  have hi := (List.getElem?_eq_some_iff.1 hc).1
  have e1 : stT Cs m i = tvA 0 (Cs.take i) ++ (⟨0, 0, 0⟩ :: List.replicate (m - (i + 1)) ⟨0, 0, 0⟩) := by
    unfold stT; rw [show m - i = (m - (i + 1)) + 1 by omega, List.replicate_succ]
  have e2 : stT Cs m (i + 1) = tvA 0 (Cs.take i) ++ (⟨c.t, lenV c.k c.l c.m, i⟩ :: List.replicate (m - (i + 1)) ⟨0, 0, 0⟩) := by
    unfold stT
    rw [List.take_add_one, hc, Option.toList_some, tvA_app, List.append_assoc]
    congr 1
    simp only [tvA, List.length_take, Nat.zero_add, List.cons_append, List.nil_append]
    rw [show min i Cs.length = i by omega]
  have h3 : (flatT (tvA 0 (Cs.take i))).length = 3 * i := by rw [flatT_len, tvA_len, List.length_take]; omega
  rw [e1, e2, flatT_app, flatT_app]
  have h4 : ∀ (z : TV) (R : List TV), flatT (z :: R) = cellsT z ++ flatT R := fun z R => by unfold flatT; rw [List.flatMap_cons]
  rw [h4, h4]
  rw [List.take_left' h3, List.append_assoc]
  congr 1
  congr 1
  rw [← List.drop_drop, List.drop_left' h3]
  rfl
def pr (t : TV) : Int × Int := (t.o, t.l)
theorem tvA_pr : ∀ (i : Nat) (Cs : List CV), (tvA i Cs).map pr = Cs.map tg
  | _, [] => rfl
  | i, c :: Cs => by simp [tvA, tvA_pr (i + 1) Cs, pr, tg]
/-- The targets of the commands up to an index. -/
def upT (i : Int) (t : TV) : Bool := decide ((t.x : Int) ≤ i)
def upF (Ts : List TV) (i : Int) : List (Int × Int) := (Ts.filter (upT i)).map pr
theorem filter_tvA : ∀ (i : Nat) (Cs : List CV) (q : Nat), (tvA i Cs).filter (upT ((i + q : Nat) : Int)) = tvA i (Cs.take (q + 1))
  | _, [], _ => by simp [tvA]
  | i, c :: Cs, 0 => by
    have h : ∀ (k : Nat) (Cs : List CV), i < k → (tvA k Cs).filter (upT ((i : Nat) : Int)) = [] := fun k Cs => by
      induction Cs generalizing k with
      | nil => intro _; rfl
      | cons c Cs ih => intro hk; simp only [tvA, List.filter_cons]; rw [if_neg (by unfold upT; simp; omega)]; exact ih (k + 1) (by omega)
    simp only [tvA, List.filter_cons, Nat.add_zero, List.take_succ_cons, List.take_zero]
    rw [if_pos (by unfold upT; simp), h (i + 1) Cs (by omega)]
  | i, c :: Cs, q + 1 => by
    have := filter_tvA (i + 1) Cs q
    simp only [tvA, List.filter_cons, List.take_succ_cons]
    rw [if_pos (by unfold upT; simp; omega), ← this, show i + 1 + q = i + (q + 1) by omega]
/-- Where the target before ends. -/
def endF (F : List (Int × Int)) : Nat → Int
  | 0 => 0
  | i + 1 => match F[i]? with
    | some p => p.1 + p.2
    | none => 0
theorem endF_succ {F : List (Int × Int)} {i : Nat} {p : Int × Int} (h : F[i]? = some p) : endF F (i + 1) = p.1 + p.2 := by simp [endF, h]
def ovF (F : List (Int × Int)) : Prop := ∃ i p, F[i]? = some p ∧ p.1 < endF F i
open Classical in
noncomputable instance (F : List (Int × Int)) : Decidable (ovF F) := Classical.propDecidable _
def gapR (F : List (Int × Int)) (g : Int) : Prop := ∃ k, k ≤ F.length ∧ g = endF F k ∧ (∀ j p, j < k → F[j]? = some p → p.1 ≤ endF F j) ∧ (k = F.length ∨ ∃ p, F[k]? = some p ∧ endF F k < p.1)
def srtF (F : List (Int × Int)) : Prop := F.Pairwise (fun p q => p.1 ≤ q.1)
def posF (F : List (Int × Int)) : Prop := ∀ p ∈ F, 0 ≤ p.1 ∧ 1 ≤ p.2
theorem no_ov {F : List (Int × Int)} (hp : posF F) (h : ¬ ovF F) : ∀ (j : Nat) (q : Int × Int), F[j]? = some q → ∀ (i : Nat) (p : Int × Int), i < j → F[i]? = some p → p.1 + p.2 ≤ q.1
  | j + 1, q, hq, i, p, hij, hpi => by
    have h1 : endF F (j + 1) ≤ q.1 := Classical.byContradiction fun hc => h ⟨j + 1, q, hq, by omega⟩
    have hj : j < F.length := by have := (List.getElem?_eq_some_iff.1 hq).1; omega
    have hr : F[j]? = some F[j] := List.getElem?_eq_getElem hj
    rw [endF_succ hr] at h1
    by_cases e : i = j
    · subst e; rw [hr] at hpi; cases hpi; exact h1
    · have h2 := no_ov hp h j _ hr i p (by omega) hpi
      have h3 := hp _ (List.getElem_mem hj)
      omega
theorem ov_iff {F : List (Int × Int)} (hp : posF F) (hs : srtF F) : ovF F ↔ ¬ F.Pairwise apartT := by
  constructor
  · rintro ⟨i, q, hq, hlt⟩ ha
    have hqp := hp q (List.mem_of_getElem? hq)
    match i with
    | 0 => simp [endF] at hlt; omega
    | i + 1 =>
      obtain ⟨hi1, rfl⟩ := List.getElem?_eq_some_iff.1 hq
      have hr : F[i]? = some F[i] := List.getElem?_eq_getElem (by omega)
      rw [endF_succ hr] at hlt
      have h1 := List.pairwise_iff_getElem.1 ha i (i + 1) (by omega) hi1 (by omega)
      have h2 := List.pairwise_iff_getElem.1 hs i (i + 1) (by omega) hi1 (by omega)
      have h3 := hp F[i] (List.getElem_mem _)
      unfold apartT at h1
      omega
  · intro ha
    apply Classical.byContradiction
    intro hn
    refine ha (List.pairwise_iff_getElem.2 fun i j hi hj hij => .inl ?_)
    exact no_ov hp hn j _ (List.getElem?_eq_getElem hj) i _ hij (List.getElem?_eq_getElem hi)
/-- The first offset without a target. -/
theorem gap_facts {F : List (Int × Int)} {g : Int} (hp : posF F) (hs : srtF F) (hg : gapR F g) : 0 ≤ g ∧ freeT F g ∨ ovF F := by
  by_cases hov : ovF F
  · exact .inr hov
  · left
    obtain ⟨k, hk, rfl, h1, h2⟩ := hg
    have h0 : 0 ≤ endF F k := by
      match k with
      | 0 => exact Int.le_refl _
      | k + 1 =>
        have hr : F[k]? = some F[k] := List.getElem?_eq_getElem (by omega)
        rw [endF_succ hr]
        have := hp F[k] (List.getElem_mem _)
        omega
    refine ⟨h0, fun p hpm hb => ?_⟩
    obtain ⟨j, hj⟩ := List.mem_iff_getElem?.1 hpm
    unfold hasB at hb
    by_cases hjk : j < k
    · match k, hk with
      | k + 1, hk =>
        have hr : F[k]? = some F[k] := List.getElem?_eq_getElem (by omega)
        rw [endF_succ hr] at hb
        by_cases e : j = k
        · subst e; rw [hr] at hj; cases hj; omega
        · have := no_ov hp hov k _ hr j p (by omega) hj
          have := hp F[k] (List.getElem_mem _)
          omega
    · rcases h2 with h2 | ⟨q, hq, hlt⟩
      · have := (List.getElem?_eq_some_iff.1 hj).1; omega
      · by_cases e : j = k
        · subst e; rw [hq] at hj; cases hj; omega
        · obtain ⟨hj1, rfl⟩ := List.getElem?_eq_some_iff.1 hj
          obtain ⟨hk1, rfl⟩ := List.getElem?_eq_some_iff.1 hq
          have := List.pairwise_iff_getElem.1 hs k j hk1 hj1 (by omega)
          omega
theorem gap_below {F : List (Int × Int)} : ∀ (k : Nat), k ≤ F.length → (∀ j p, j < k → F[j]? = some p → p.1 ≤ endF F j) → ∀ x, 0 ≤ x → x < endF F k → ∃ p ∈ F, hasB p x
  | 0, _, _, x, h0, h1 => by simp [endF] at h1; omega
  | k + 1, hk, h, x, h0, h1 => by
    have hr : F[k]? = some F[k] := List.getElem?_eq_getElem (by omega)
    rw [endF_succ hr] at h1
    by_cases hx : F[k].1 ≤ x
    · exact ⟨F[k], List.getElem_mem _, hx, h1⟩
    · have h2 := h k _ (by omega) hr
      exact gap_below k (by omega) (fun j p hj hp => h j p (by omega) hp) x h0 (by omega)
theorem gap_least {F : List (Int × Int)} {g N : Int} (hp : posF F) (hs : srtF F) (hn : ¬ ovF F) (hg : gapR F g) (hN : g < N) : leastT N F g := by
  obtain ⟨h0, hf⟩ := (gap_facts hp hs hg).resolve_right hn
  obtain ⟨k, hk, rfl, h1, h2⟩ := hg
  exact ⟨h0, hN, hf, fun x hx hxg hfx => by
    obtain ⟨p, hpm, hb⟩ := gap_below k hk h1 x hx hxg
    exact hfx p hpm hb⟩
theorem gap_covers {F : List (Int × Int)} {g N : Int} (hg : gapR F g) (hN : N ≤ g) : coverT 0 N F := fun x h0 hx => by
  obtain ⟨k, hk, rfl, h1, h2⟩ := hg
  exact gap_below k hk h1 x h0 (by omega)
theorem endF_bd {F : List (Int × Int)} {n : Int} (hp : posF F) (hn : ∀ p ∈ F, p.1 + p.2 ≤ n) (h0 : 0 ≤ n) : ∀ k, 0 ≤ endF F k ∧ endF F k ≤ n
  | 0 => ⟨Int.le_refl _, h0⟩
  | k + 1 => by
    cases h : F[k]? with
    | none =>
      have e : endF F (k + 1) = 0 := by simp [endF, h]
      rw [e]; exact ⟨Int.le_refl _, h0⟩
    | some p =>
      have h1 := hp p (List.mem_of_getElem? h)
      have h2 := hn p (List.mem_of_getElem? h)
      rw [endF_succ h]
      omega
/-- Targets of commands that are valid by themselves, sorted. -/
structure AscT (o n : Int) (Cs : List CV) (Ts : List TV) : Prop where
  perm : Ts.Perm (tvOf Cs)
  srt : Ts.Pairwise leT
  ok : okLen o n
  single : ∀ (i : Nat) (x : CV), Cs[i]? = some x → singleV o n x = 0
section
variable {o n : Int} {Cs : List CV} {Ts : List TV}
theorem AscT.len (h : AscT o n Cs Ts) : Ts.length = Cs.length := by rw [h.perm.length_eq, tvA_len]
theorem AscT.num (h : AscT o n Cs Ts) {t : TV} (ht : t ∈ Ts) : 0 ≤ t.o ∧ 1 ≤ t.l ∧ t.o + t.l ≤ n ∧ n ≤ 4611686018427387903 ∧ t.x < Cs.length := by
  obtain ⟨j, c, hj, rfl⟩ := tvA_of (h.perm.mem_iff.1 ht)
  obtain ⟨h1, h2, h3, _⟩ := single_vld (h.single j c hj)
  have h4 := h.ok
  have h5 := (List.getElem?_eq_some_iff.1 hj).1
  unfold vld at h1
  unfold okLen at h4
  dsimp only
  omega
theorem AscT.nums (h : AscT o n Cs Ts) (hm : Cs.length ≤ 1000000000) : ∀ t ∈ Ts, (-9223372036854775808 ≤ t.o ∧ t.o ≤ 9223372036854775807) ∧ (-9223372036854775808 ≤ t.l ∧ t.l ≤ 9223372036854775807) ∧ t.x ≤ 9223372036854775807 := fun t ht => by
  have := h.num ht; omega
theorem AscT.n0 (h : AscT o n Cs Ts) : 0 ≤ n ∧ n ≤ 4611686018427387903 := by have := h.ok; unfold okLen at this; omega
theorem AscT.pos (h : AscT o n Cs Ts) (i : Int) : posF (upF Ts i) := fun p hp => by
  obtain ⟨t, ht, rfl⟩ := List.mem_map.1 hp
  have := h.num (List.mem_filter.1 ht).1
  unfold pr; dsimp only; omega
theorem AscT.ends (h : AscT o n Cs Ts) (i : Int) : ∀ p ∈ upF Ts i, p.1 + p.2 ≤ n := fun p hp => by
  obtain ⟨t, ht, rfl⟩ := List.mem_map.1 hp
  have := h.num (List.mem_filter.1 ht).1
  unfold pr; dsimp only; omega
theorem AscT.srtd (h : AscT o n Cs Ts) (i : Int) : srtF (upF Ts i) := by
  unfold srtF upF
  rw [List.pairwise_map]
  exact h.srt.sublist List.filter_sublist
theorem AscT.upPerm (h : AscT o n Cs Ts) (i : Nat) : (upF Ts (i : Int)).Perm ((Cs.take (i + 1)).map tg) := by
  unfold upF
  have h1 := (h.perm.filter (upT (i : Int))).map pr
  have h2 := filter_tvA 0 Cs i
  rw [Nat.zero_add] at h2
  rw [h2, tvA_pr] at h1
  exact h1
theorem bad2_iff (h1 : ∀ (i : Nat) (x : CV), Cs[i]? = some x → singleV o n x = 0) (i : Nat) : (∃ i', i' ≤ i ∧ bad2 Cs i') ↔ ¬ ((Cs.take (i + 1)).map tg).Pairwise apartT := by
  have pos : ∀ {j : Nat} {x : CV}, Cs[j]? = some x → 1 ≤ (tg x).2 := fun hx => (single_vld (h1 _ _ hx)).2.1
  constructor
  · rintro ⟨i', hi, x, j, y, hx, hj, hy, hm⟩ hp
    have hx' : ((Cs.take (i + 1)).map tg)[i']? = some (tg x) := by rw [List.getElem?_map, List.getElem?_take, if_pos (by omega), hx]; rfl
    have hy' : ((Cs.take (i + 1)).map tg)[j]? = some (tg y) := by rw [List.getElem?_map, List.getElem?_take, if_pos (by omega), hy]; rfl
    obtain ⟨a1, a2⟩ := List.getElem?_eq_some_iff.1 hx'
    obtain ⟨b1, b2⟩ := List.getElem?_eq_some_iff.1 hy'
    have := List.pairwise_iff_getElem.1 hp j i' b1 a1 hj
    rw [a2, b2] at this
    exact (meets_apart (pos hx) (pos hy)).2 this.symm hm
  · intro hn
    apply Classical.byContradiction
    intro hno
    refine hn (List.pairwise_iff_getElem.2 fun j i' hj hi' hlt => ?_)
    simp only [List.length_map, List.length_take] at hj hi'
    simp only [List.getElem_map, List.getElem_take]
    have hx : Cs[i']? = some Cs[i'] := List.getElem?_eq_getElem (by omega)
    have hy : Cs[j]? = some Cs[j] := List.getElem?_eq_getElem (by omega)
    exact ((meets_apart (pos hx) (pos hy)).1 fun hm => hno ⟨i', by omega, _, j, _, hx, hlt, hy, hm⟩).symm
theorem AscT.ov (h : AscT o n Cs Ts) (i : Nat) : ovF (upF Ts (i : Int)) ↔ ∃ i', i' ≤ i ∧ bad2 Cs i' := by
  rw [ov_iff (h.pos _) (h.srtd _), bad2_iff h.single]
  have hp := h.upPerm i
  constructor
  · exact fun h1 h2 => h1 (h2.perm hp.symm apartT.symm)
  · exact fun h1 h2 => h1 (h2.perm hp apartT.symm)
theorem AscT.mono (h : AscT o n Cs Ts) {a b : Nat} (hab : a ≤ b) (ha : ovF (upF Ts (a : Int))) : ovF (upF Ts (b : Int)) := by
  rw [h.ov] at ha ⊢
  obtain ⟨i', h1, h2⟩ := ha
  exact ⟨i', by omega, h2⟩
/-- The first overlap, by bisection. -/
theorem AscT.over (h : AscT o n Cs Ts) {k : Nat} (hk : ovF (upF Ts (k : Int))) (hb : ∀ j : Nat, j < k → ¬ ovF (upF Ts (j : Int))) : faultI o n Cs = (4, (k : Int)) := by
  obtain ⟨i', hi, hbad⟩ := (h.ov k).1 hk
  have e : i' = k := by
    apply Classical.byContradiction
    intro hne
    exact hb i' (by omega) ((h.ov i').2 ⟨i', Nat.le_refl _, hbad⟩)
  subst e
  obtain ⟨x, j, y, hx, hj, hy, hm⟩ := hbad
  exact faultI_over h.ok h.single hx hj hy hm fun q hq hbq => hb q hq ((h.ov q).2 ⟨q, Nat.le_refl _, hbq⟩)
theorem AscT.noBad (h : AscT o n Cs Ts) {m : Nat} (hm : Cs.length = m) (hb : ∀ j : Nat, j < m → ¬ ovF (upF Ts (j : Int))) : ∀ i, ¬ bad2 Cs i :=
  bad2_all (m := m) (by omega) fun i' hi' hbad => hb i' hi' ((h.ov i').2 ⟨i', Nat.le_refl _, hbad⟩)
theorem AscT.all (h : AscT o n Cs Ts) {m : Nat} (hm : Cs.length = m) : (upF Ts (m : Int)).Perm (Cs.map tg) := by
  have := h.upPerm m
  rwa [List.take_of_length_le (by omega)] at this
theorem AscT.noOv (h : AscT o n Cs Ts) {m : Nat} (hm : Cs.length = m) (hb : ∀ j : Nat, j < m → ¬ ovF (upF Ts (j : Int))) : ¬ ovF (upF Ts (m : Int)) := fun hov => by
  obtain ⟨i', _, hbad⟩ := (h.ov m).1 hov
  exact h.noBad hm hb i' hbad
theorem AscT.gap (h : AscT o n Cs Ts) {m : Nat} {g : Int} (hm : Cs.length = m) (hb : ∀ j : Nat, j < m → ¬ ovF (upF Ts (j : Int))) (hg : gapR (upF Ts (m : Int)) g) (hN : g < n) : faultI o n Cs = (3, g) := by
  have hl := gap_least (h.pos _) (h.srtd _) (h.noOv hm hb) hg hN
  have hp := h.all hm
  have hl2 : leastT n (Cs.map tg) g := ⟨hl.1, hl.2.1, hl.2.2.1.perm hp, fun x hx hxg hf => hl.2.2.2 x hx hxg (hf.perm hp.symm)⟩
  rw [faultI_gap h.ok h.single (h.noBad hm hb), gapI_is hl2, if_pos hl.1]
theorem AscT.none (h : AscT o n Cs Ts) {m : Nat} {g : Int} (hm : Cs.length = m) (hb : ∀ j : Nat, j < m → ¬ ovF (upF Ts (j : Int))) (hg : gapR (upF Ts (m : Int)) g) (hN : ¬ g < n) : faultI o n Cs = (0, 0) := by
  have hc := (gap_covers (N := n) hg (by omega)).perm (h.all hm)
  rw [faultI_gap h.ok h.single (h.noBad hm hb), gapI_no hc, if_neg (by omega)]
end
/-! ### How many have been handed on -/
def cntT (Ts : List TV) (i : Int) (k : Nat) : Nat := ((Ts.take k).filter (upT i)).length
theorem cntT_zero (Ts : List TV) (i : Int) : cntT Ts i 0 = 0 := by simp [cntT]
theorem cntT_yes {Ts : List TV} {i : Int} {k : Nat} {t : TV} (ht : Ts[k]? = some t) (h : (t.x : Int) ≤ i) : cntT Ts i (k + 1) = cntT Ts i k + 1 ∧ (upF Ts i)[cntT Ts i k]? = some (pr t) := by
  have hb : upT i t = true := by unfold upT; simpa using h
  have hk := (List.getElem?_eq_some_iff.1 ht).1
  constructor
  · unfold cntT
    rw [List.take_add_one, ht, Option.toList_some, List.filter_append]
    simp [hb]
  · unfold upF cntT
    have e : Ts.filter (upT i) = (Ts.take k).filter (upT i) ++ (t :: (Ts.drop (k + 1)).filter (upT i)) := by
      conv => lhs; rw [← List.take_append_drop k Ts]
      rw [List.filter_append, List.drop_eq_getElem_cons hk, List.filter_cons]
      have : Ts[k] = t := (List.getElem?_eq_some_iff.1 ht).2
      rw [this, if_pos hb]
    rw [List.getElem?_map, e, List.getElem?_append_right (Nat.le_refl _), Nat.sub_self]
    rfl
theorem cntT_no {Ts : List TV} {i : Int} {k : Nat} {t : TV} (ht : Ts[k]? = some t) (h : ¬ (t.x : Int) ≤ i) : cntT Ts i (k + 1) = cntT Ts i k := by
  have hb : upT i t = false := by unfold upT; simpa using h
  unfold cntT
  rw [List.take_add_one, ht, Option.toList_some, List.filter_append]
  simp [hb]
theorem cntT_all {Ts : List TV} {i : Int} {m : Nat} (hm : Ts.length = m) : cntT Ts i m = (upF Ts i).length := by
  unfold cntT upF
  rw [List.take_of_length_le (by omega), List.length_map]
theorem cntT_lt {Ts : List TV} {i : Int} {k : Nat} {t : TV} (ht : Ts[k]? = some t) (h : (t.x : Int) ≤ i) : cntT Ts i k < (upF Ts i).length := (List.getElem?_eq_some_iff.1 (cntT_yes ht h).2).1
/-- A slice of targets lies in memory. -/
def RowsT (w : World) (b off : Nat) (Ts : List TV) : Prop := ∀ (i : Nat) (x : TV), Ts[i]? = some x → ∀ j u, (cellsT x)[j]? = some u → w.cell? ⟨b, off + 3 * i + j, none⟩ = some u
theorem lies_rowsT {w : World} {g t tot : Nat} {Ts : List TV} (h : Ent.lies ⟨g, t, flatT Ts, tot⟩ w) : RowsT w g 0 Ts := fun i x hx j u hu => by
  have := h.cell (o := 3 * i + j) (flatT_get hx hu)
  rw [show 0 + 3 * i + j = 3 * i + j by omega]
  exact this
theorem RowsT.of_block {w w' : World} {b off : Nat} {Ts : List TV} (h : RowsT w b off Ts) (hb : w'.heap[b]? = w.heap[b]?) : RowsT w' b off Ts := fun i x hx j u hu => (World.cell?_of_block (w := w) hb).trans (h i x hx j u hu)
end Go.Proofs.Ytkgamkjdkapchaa
