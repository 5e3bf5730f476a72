/-
  Clones of commands, with the blocks that hold their bytes.
-/
import Derived.Test.YtkgamkjdkapchaaMk
import Derived.Test.YtkgamkjdkapchaaTgt
namespace Go.Proofs.Ytkgamkjdkapchaa
set_option linter.unusedVariables false
set_option linter.unusedSimpArgs false
set_option linter.unusedVariables false
open Go Go.RowKit
def OwnB (N : Nat) (Fs : List CV) (He : List Ent) : Prop := (∀ e ∈ He, N ≤ e.g) ∧ NumsC Fs ∧ ∀ w : World, (∀ e ∈ He, e.lies w) → DatC w Fs
def clV (x : CV) (A : Option Addr) (c : Nat) : CV := ⟨x.k, x.t, x.f, x.l, A, x.m, c, x.B⟩
def CloneR (N : Nat) (x : CV) (A : Option Addr) (c : Nat) (He : List Ent) : Prop := (∀ e ∈ He, N ≤ e.g) ∧ NumC (clV x A c) ∧ ∀ w : World, (∀ e ∈ He, e.lies w) → Src w A x.m .u8 x.B ∧ Bytes x.B
theorem CloneR.mono {N N' : Nat} {x : CV} {A : Option Addr} {c : Nat} {He : List Ent} (h : CloneR N' x A c He) (hN : N ≤ N') : CloneR N x A c He := ⟨fun e he => Nat.le_trans hN (h.1 e he), h.2⟩
theorem OwnB.nil (N : Nat) : OwnB N [] [] := ⟨fun e he => (nomatch he), fun i x h => (by simp at h), fun w _ i x h => (by simp at h)⟩
theorem nums_add {Fs : List CV} {z : CV} (h : NumsC Fs) (hz : NumC z) : NumsC (Fs ++ [z]) := fun i x hx => by
  by_cases hi : i < Fs.length
  · rw [List.getElem?_append_left hi] at hx; exact h i x hx
  · rw [List.getElem?_append_right (by omega)] at hx
    match hq : i - Fs.length, hx with
    | 0, hx => simp at hx; subst hx; exact hz
    | q + 1, hx => simp at hx
theorem dat_add {w : World} {Fs : List CV} {z : CV} (h : DatC w Fs) (hz : Src w z.A z.m .u8 z.B ∧ Bytes z.B) : DatC w (Fs ++ [z]) := fun i x hx => by
  by_cases hi : i < Fs.length
  · rw [List.getElem?_append_left hi] at hx; exact h i x hx
  · rw [List.getElem?_append_right (by omega)] at hx
    match hq : i - Fs.length, hx with
    | 0, hx => simp at hx; subst hx; exact hz
    | q + 1, hx => simp at hx
theorem OwnB.add {N : Nat} {Fs : List CV} {He He' : List Ent} {x : CV} {A : Option Addr} {c : Nat} (h : OwnB N Fs He) (hc : CloneR N x A c He') : OwnB N (Fs ++ [clV x A c]) (He ++ He') :=
  ⟨fun e he => by
    rcases List.mem_append.1 he with he | he
    · exact h.1 e he
    · exact hc.1 e he, nums_add h.2.1 hc.2.1, fun w hl => dat_add (h.2.2 w fun e he => hl e (List.mem_append.2 (.inl he))) (hc.2.2 w fun e he => hl e (List.mem_append.2 (.inr he)))⟩
theorem sameE_add {Fs Es : List CV} {i : Nat} {x : CV} {A : Option Addr} {c : Nat} (h : sameE Fs (Es.take i)) (hx : Es[i]? = some x) : sameE (Fs ++ [clV x A c]) (Es.take (i + 1)) := by
  unfold sameE at h ⊢
  rw [List.take_add_one, hx, Option.toList_some, List.map_append, List.map_append, h]
  rfl
def zC : CV := ⟨0, 0, 0, 0, none, 0, 0, []⟩
def stC (Fs : List CV) (r : Nat) : List CV := Fs ++ List.replicate r zC
theorem flatC_cons (z : CV) (R : List CV) : flatC (z :: R) = cellsC z ++ flatC R := by unfold flatC; rw [List.flatMap_cons]
theorem stC_rep (m : Nat) : (List.replicate m [Value.int .i64 0, Value.int .i64 0, Value.int .i64 0, Value.int .i64 0, Value.slice none 0 0]).flatten = flatC (stC [] m) := by
  unfold stC
  rw [List.nil_append]
  induction m with
  | zero => rfl
  | succ m ih => rw [List.replicate_succ, List.replicate_succ, List.flatten_cons, ih, flatC_cons]; rfl
theorem stC_len (Fs : List CV) (r : Nat) : (stC Fs r).length = Fs.length + r := by unfold stC; simp
theorem stC_step {Fs : List CV} {i m : Nat} {z : CV} (hl : Fs.length = i) (hi : i < m) :
    (flatC (stC Fs (m - i))).take (5 * i) ++ cellsC z ++ (flatC (stC Fs (m - i))).drop (5 * i + 5) = flatC (stC (Fs ++ [z]) (m - (i + 1))) := by
  have e1 : stC Fs (m - i) = Fs ++ (zC :: List.replicate (m - (i + 1)) zC) := by
    unfold stC; rw [show m - i = (m - (i + 1)) + 1 by omega, List.replicate_succ]
  have e2 : stC (Fs ++ [z]) (m - (i + 1)) = Fs ++ (z :: List.replicate (m - (i + 1)) zC) := by unfold stC; rw [List.append_assoc]; rfl
  have h3 : (flatC Fs).length = 5 * i := by rw [flatC_len]; omega
  rw [e1, e2, flatC_app, flatC_app, flatC_cons, flatC_cons, List.take_left' h3, List.append_assoc]
  congr 1
  congr 1
  rw [← List.drop_drop, List.drop_left' h3]
  rfl
theorem stC_end {Fs : List CV} {i m : Nat} (h : i = m) : flatC (stC Fs (m - i)) = flatC Fs := by subst h; unfold stC; simp
theorem OwnB.ownD {N g t tot m : Nat} {Fs : List CV} {He : List Ent} {cs : List Value} (h : OwnB N Fs He) (hg : N ≤ g) (hm : Fs.length = m) (hcs : cs = flatC Fs) : OwnD N (some ⟨g, 0, none⟩) m Fs (⟨g, t, cs, tot⟩ :: He) :=
  ⟨fun e he => by
    rcases List.mem_cons.1 he with rfl | he
    · exact hg
    · exact h.1 e he, h.2.1, .inr ⟨g, 0, rfl⟩, fun w hl => ⟨lies_srcC (hl _ List.mem_cons_self) hcs hm, h.2.2 w fun e he => hl e (List.mem_cons_of_mem _ he)⟩⟩
theorem with_keep {w0 w : World} {e6 gb : Ent} {R He Hy : List Ent} (h : St w0 (((e6 :: R) ++ He) ++ (([] ++ Hy) ++ [gb])) w) (h6 : w0.heap.size ≤ e6.g) : St w0 ((gb :: R) ++ (He ++ Hy)) w := by
  have hp : (((e6 :: R) ++ He) ++ (([] ++ Hy) ++ [gb])).Perm (e6 :: ((gb :: R) ++ (He ++ Hy))) := by
    rw [List.nil_append]
    show (e6 :: ((R ++ He) ++ (Hy ++ [gb]))).Perm _
    refine List.Perm.cons _ ?_
    rw [← List.append_assoc, ← List.append_assoc]
    refine (List.perm_append_singleton _ _).trans ?_
    rw [List.append_assoc (gb :: R)]
    simp
  exact (h.perm hp).drop h6
theorem OwnS.room {N g m s : Nat} {t : TypeId} (h : N ≤ g) (hm : m ≤ maxLen) : OwnS N t s (.slice (some ⟨g, 0, none⟩) 0 m) 0 [] [⟨g, t, [], m * s⟩] := ⟨by simp, .inr ⟨g, m, rfl, rfl, h, Nat.zero_le _, hm⟩⟩
/-- The commands that targets name. -/
def pickC (Cs : List CV) (Ts : List TV) : List CV := Ts.map fun t => Cs.getD t.x zC
theorem pick_tv : ∀ (Es : List CV) (Cs : List CV) (i : Nat), (∀ j x, Es[j]? = some x → Cs[i + j]? = some x) → pickC Cs (tvA i Es) = Es
  | [], _, _, _ => rfl
  | c :: Es, Cs, i, h => by
    have h0 := h 0 c rfl
    have ih := pick_tv Es Cs (i + 1) fun j x hx => by rw [show i + 1 + j = i + (j + 1) by omega]; exact h (j + 1) x (by simpa using hx)
    unfold pickC at ih ⊢
    simp only [tvA, List.map_cons]
    rw [ih, List.getD_eq_getElem?_getD]
    rw [Nat.add_zero] at h0
    rw [h0]; rfl
theorem pick_perm {Cs : List CV} {Ts : List TV} (h : Ts.Perm (tvOf Cs)) : (pickC Cs Ts).Perm Cs := by
  have h1 := h.map fun t => Cs.getD t.x zC
  have h2 := pick_tv Cs Cs 0 fun j x hx => by rw [Nat.zero_add]; exact hx
  unfold pickC at h2 ⊢
  rw [h2] at h1; exact h1
theorem tv_key {Cs : List CV} {Ts : List TV} (h : Ts.Perm (tvOf Cs)) {t : TV} (ht : t ∈ Ts) : ∃ c, Cs[t.x]? = some c ∧ t.o = c.t := by
  obtain ⟨j, c, hj, rfl⟩ := tvA_of (h.mem_iff.1 ht)
  exact ⟨c, by rw [Nat.zero_add]; exact hj, rfl⟩
theorem pick_sorted {Cs : List CV} {Ts : List TV} (h : Ts.Perm (tvOf Cs)) (hs : Ts.Pairwise leT) : (pickC Cs Ts).Pairwise leC := by
  unfold pickC
  rw [List.pairwise_map]
  refine hs.imp_of_mem fun {a b} ha hb hab => ?_
  obtain ⟨c, hc, e1⟩ := tv_key h ha
  obtain ⟨d, hd, e2⟩ := tv_key h hb
  rw [List.getD_eq_getElem?_getD, List.getD_eq_getElem?_getD, hc, hd]
  unfold leC leT at *
  simp only [Option.getD_some]
  omega
theorem pick_at {Cs : List CV} {Ts : List TV} {i : Nat} {t : TV} {x : CV} (ht : Ts[i]? = some t) (hx : Cs[t.x]? = some x) : pickC Cs (Ts.take (i + 1)) = pickC Cs (Ts.take i) ++ [x] := by
  unfold pickC
  rw [List.take_add_one, ht, Option.toList_some, List.map_append]
  simp only [List.map_cons, List.map_nil, List.getD_eq_getElem?_getD, hx, Option.getD_some]
end Go.Proofs.Ytkgamkjdkapchaa
