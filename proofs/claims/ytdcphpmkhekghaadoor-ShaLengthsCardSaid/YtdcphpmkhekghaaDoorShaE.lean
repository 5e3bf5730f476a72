/-
  Contract of package sha: Write.
-/
import Derived.Test.YtdcphpmkhekghaaDoorShaD
namespace Go.Proofs.YtdcphpmkhekghaaDoor
set_option linter.unusedVariables false
set_option linter.unusedSimpArgs false
open Go Go.RowKit
theorem agg22 : (isAgg 22).run Tryd.prog = fun w => .ok false w := isAgg_no Tryd.underlying22 rfl
theorem enters24 : Enters Tryd.prog 24 := ⟨_, Tryd.func24, by kernel_rfl, by kernel_rfl⟩
theorem size22 : (Tryd.prog.info? 22).map (·.size) = some 1 := by kernel_rfl

theorem take_m (M P st rs : List Int) (g : Nat) (A : Option Addr) (m c : Nat) (w : World) (hk : HashOK M st rs) (hl : Ent.lies ⟨g, 53, st.map (Value.int .u32) ++ (rs.map (Value.int .u8) ++ ([Value.int .i64 M.length])), 73⟩ w) (hsrc : SrcN w g A m .u8 P) (hmc : m ≤ c) (hn : M.length + m ≤ 4611686018427387903) (hb1 : 1 < w.heap.size) (hg1 : g ≠ 1) (hK : RowI w 1 0 64 .u32 KT) :
    Calls Tryd.prog 24 #[.pointer (some ⟨g, 0, none⟩), .slice A m c] w fun e w' => e = .returned (.tuple #[]) ∧ ∃ st' rs', HashOK (M ++ P) st' rs' ∧ St w [⟨g, 53, (st').map (Value.int .u32) ++ ((rs').map (Value.int .u8) ++ ([Value.int .i64 ((M ++ P).length)])), 73⟩] w' :=
  (take_c M P st rs M.length g A m c w hk rfl hk.len hk.rlen hl hsrc hmc hn hb1 hg1 hK).mono fun e w' ⟨he, st', rs', h1, h2⟩ => ⟨he, st', rs', h1, by
    have : (((M ++ P).length : Nat) : Int) = (M.length : Int) + (m : Int) := by simp [hsrc.1]
    rw [this]; exact h2⟩
theorem SrcN.keep {w w' : World} {H : List Ent} {g m : Nat} {A : Option Addr} {kd : IntKind} {B : List Int} (h : SrcN w g A m kd B) (hs : St w H w') (hH : ∀ b, b < w.heap.size → b ≠ g → ∀ e ∈ H, e.g ≠ b) : SrcN w' g A m kd B := by
  obtain ⟨h1, h2⟩ := h
  refine ⟨h1, ?_⟩
  rcases h2 with h2 | ⟨b, off, hA, hb, hne, hr⟩
  · exact .inl h2
  · exact .inr ⟨b, off, hA, Nat.lt_of_lt_of_le hb hs.size, hne, fun j hj => (hs.old_cell (ad := ⟨b, off + j, none⟩) hb (hH b hb hne)).trans (hr j hj)⟩
/-- A slice of slices of bytes. -/
def PartsN (w : World) (g : Nat) (A : Option Addr) (m : Nat) (Ps : List (List Int)) : Prop :=
  Ps.length = m ∧ (m = 0 ∨ ∃ b off, A = some ⟨b, off, none⟩ ∧ b < w.heap.size ∧ b ≠ g ∧ ∀ i, i < m → ∃ Ai mi ci, w.cell? ⟨b, off + i, none⟩ = some (.slice Ai mi ci) ∧ SrcN w g Ai mi .u8 (Ps.getD i []) ∧ mi ≤ ci)
theorem flat_succ {Ps : List (List Int)} {i : Nat} (h : i < Ps.length) (M : List Int) : M ++ (Ps.take (i + 1)).flatten = (M ++ (Ps.take i).flatten) ++ Ps.getD i [] := by
  rw [List.take_succ_eq_append_getElem h, show Ps.getD i [] = Ps[i] by simp [h]]
  simp only [List.flatten_append, List.flatten_cons, List.flatten_nil, List.append_nil, List.append_assoc]
theorem flat_le {Ps : List (List Int)} {i : Nat} (h : i < Ps.length) : (Ps.take i).flatten.length + (Ps.getD i []).length ≤ Ps.flatten.length := by
  have h1 := flat_succ h []
  simp only [List.nil_append] at h1
  have h2 : (Ps.take (i + 1)).flatten.length + (Ps.drop (i + 1)).flatten.length = Ps.flatten.length := by rw [← List.length_append, ← List.flatten_append, List.take_append_drop]
  rw [h1, List.length_append] at h2
  omega
structure WI where
  i : Nat
  st : List Int
  rs : List Int

theorem write_end {w0 w : World} {M st rs : List Int} {Ps : List (List Int)} {g m t tot : Nat} {A : Option Addr} (hP : PartsN w0 g A m Ps) (hk : HashOK (M ++ (Ps.take m).flatten) st rs) (hs : St w0 [⟨g, t, st.map (Value.int .u32) ++ (rs.map (Value.int .u8) ++ [Value.int .i64 ((M ++ (Ps.take m).flatten).length : Int)]), tot⟩] w) :
    Ending.returned (.int .i64 (((M ++ (Ps.take m).flatten).length : Int) - (M.length : Int))) = .returned (.int .i64 (Ps.flatten.length : Int)) ∧ ∃ st' rs', HashOK (M ++ Ps.flatten) st' rs' ∧ St w0 [⟨g, t, st'.map (Value.int .u32) ++ (rs'.map (Value.int .u8) ++ [Value.int .i64 ((M ++ Ps.flatten).length : Int)]), tot⟩] w := by
  have : Ps.take m = Ps := List.take_of_length_le (by have := hP.1; omega)
  rw [this] at hk hs ⊢
  refine ⟨?_, st, rs, hk, hs⟩
  congr 2
  simp only [List.length_append]
  omega

set_option maxRecDepth 100000 in
set_option maxHeartbeats 400000 in
theorem write_c (M st rs : List Int) (Ps : List (List Int)) (g : Nat) (A : Option Addr) (m c : Nat) (w : World) (hk : HashOK M st rs) (hst : st.length = 8) (hrs : rs.length = 64) (hl : Ent.lies ⟨g, 53, st.map (Value.int .u32) ++ (rs.map (Value.int .u8) ++ ([Value.int .i64 (M.length : Int)])), 73⟩ w) (hP : PartsN w g A m Ps) (hmc : m ≤ c) (hcm : c ≤ 9223372036854775807) (hn : M.length + Ps.flatten.length ≤ 4611686018427387903) (hb1 : 1 < w.heap.size) (hg1 : g ≠ 1) (hK : RowI w 1 0 64 .u32 KT) : Calls Tryd.prog 13 #[.pointer (some ⟨g, 0, none⟩), .slice A m c] w fun e w' => e = .returned (.int .i64 (Ps.flatten.length : Int)) ∧ ∃ st' rs', HashOK (M ++ Ps.flatten) st' rs' ∧ St w [⟨g, 53, (st').map (Value.int .u32) ++ ((rs').map (Value.int .u8) ++ ([Value.int .i64 ((M ++ Ps.flatten).length : Int)])), 73⟩] w' := by
  have hg : g < w.heap.size := hl.lt
  refine calls_from (args := [.pointer (some ⟨g, 0, none⟩), .slice A m c]) Tryd.func13 rfl Tryd.ntmps13 (by simp) ?_
  refine TC.sub (Sub.cons (i := 0) rfl (Sub.cons (i := 1) rfl (Sub.nil))) ?_
  refine TC.heap (H' := [⟨g, 53, st.map (Value.int .u32) ++ (rs.map (Value.int .u8) ++ ([Value.int .i64 (M.length : Int)])), 73⟩]) (fun w hs => hs.take hl ne_nil) ?_
  refine TC.seq ?_
  refine TC.regionL ?_
  refine TL.gets (Wants.none rfl) rfl (Gets.assign rfl rfl) ?_
  refine TL.nil ?_
  refine TE.then ?_
  refine TC.seq ?_
  refine TC.seq ?_
  refine TC.regionL ?_
  refine TL.gets (Wants.none rfl) rfl (Gets.move rfl rfl) ?_
  refine TL.gets (Wants.none rfl) rfl (Gets.ptrNil rfl Tryd.underlying28 rfl rfl) ?_
  refine TL.nil ?_
  refine TE.then ?_
  refine TC.no rfl ?_
  refine TC.skip ?_
  refine TE.then ?_
  refine TC.seq ?_
  refine TC.regionL ?_
  refine TL.gets (Wants.none rfl) rfl (Gets.move rfl rfl) ?_
  refine TL.gets (Wants.none rfl) rfl (Gets.nilCheck rfl rfl) ?_
  refine TL.gets (Wants.none rfl) rfl (Gets.fieldAddr rfl Tryd.underlying53 rfl size3 rfl (off' := 72) (by first | rfl | omega)) ?_
  refine TL.gets (Wants.none rfl) rfl (Gets.load1 rfl agg3 rfl (At.ent (i := 0) (ent := ⟨g, 53, st.map (Value.int .u32) ++ (rs.map (Value.int .u8) ++ ([Value.int .i64 (M.length : Int)])), 73⟩) (off := 72) rfl rfl (by exact app_right (a := 8) (i := 64) (ints_len hst) (app_right (a := 64) (i := 0) (ints_len hrs) (rfl))))) ?_
  refine TL.gets (Wants.none rfl) rfl (Gets.assign rfl rfl) ?_
  refine TL.nil ?_
  refine TE.then ?_
  refine TC.sub (Sub.cons (i := 0) rfl (Sub.cons (i := 1) rfl (Sub.cons (i := 4) rfl (Sub.cons (i := 5) rfl (Sub.nil))))) ?_
  refine TC.seq ?_
  refine TC.seq ?_
  refine TC.regionL ?_
  refine TL.gets (Wants.none rfl) rfl (Gets.move rfl rfl) ?_
  refine TL.gets (Wants.none rfl) rfl (Gets.lenSlice rfl Tryd.underlying34 rfl) ?_
  refine TL.gets (Wants.none rfl) rfl (Gets.move rfl rfl) ?_
  refine TL.nil ?_
  refine TE.then ?_
  refine TC.block ?_
  refine TC.loop (ι := WI) (fun x => [(0, .pointer (some ⟨g, 0, none⟩)), (5, .int .i64 (M.length : Int)), (14, .slice A m c), (15, .int .i64 (m : Int)), (16, .int .i64 (x.i : Int))]) (fun x => [⟨g, 53, x.st.map (Value.int .u32) ++ (x.rs.map (Value.int .u8) ++ ([Value.int .i64 ((M ++ (Ps.take x.i).flatten).length : Int)])), 73⟩]) (fun x => m - x.i) (fun x => x.i ≤ m ∧ HashOK (M ++ (Ps.take x.i).flatten) x.st x.rs) (⟨0, st, rs⟩ : WI) ⟨Nat.zero_le _, by simpa using hk⟩ (Sub.cons (i := 0) rfl (Sub.int (i := 5) rfl (by first | rfl | omega) (Sub.slice (i := 14) rfl rfl (by first | omega | (dsimp only; omega) | rfl) (by first | omega | (dsimp only; omega) | rfl) (Sub.int (i := 15) rfl (by first | omega | rfl) (Sub.int (i := 16) rfl (by first | omega | rfl) (Sub.nil)))))) (fun w h => by simpa using h) (fun x hC0 => ?_)
  obtain ⟨i, st1, rs1⟩ := x
  obtain ⟨hC1, hC2⟩ := hC0
  dsimp only at hC1 hC2 ⊢
  have hstx := hC2.len
  have hrsx := hC2.rlen
  refine TC.seq ?_
  refine TC.regionL ?_
  refine TL.gets (Wants.none rfl) rfl (Gets.lss rfl rfl rfl) ?_
  refine TL.nil ?_
  refine TE.then ?_
  refine TC.seq ?_
  refine TC.split rfl (fun h1 => ?_) (fun h1 => ?_)
  · obtain ⟨b, off, hE, hb, hbg, hcells⟩ := hP.2.resolve_left (by omega)
    subst hE
    obtain ⟨Ai, mi, ci, hci, hSi, hmi⟩ := hcells i (by omega)
    have hoff : off + i = (off + i) := rfl
    refine TC.skip ?_
    refine TE.then ?_
    refine TC.seq ?_
    refine TC.block ?_
    refine TC.seq ?_
    refine TC.regionL ?_
    refine TL.gets (Wants.none rfl) rfl (Gets.idxSlice rfl Tryd.underlying34 size22 rfl rfl (i := i) (by omega) (by omega) (off' := (off + i)) (by omega)) ?_
    refine TL.gets (Wants.none rfl) rfl (Gets.load1 rfl agg22 rfl (At.old (hoff ▸ hci) hb (ne_cons (by show g ≠ b; exact fun h => hbg h.symm) ne_nil))) ?_
    refine TL.gets (Wants.none rfl) rfl (Gets.assign rfl rfl) ?_
    refine TL.nil ?_
    refine TE.then ?_
    refine TC.sub (Sub.cons (i := 0) rfl (Sub.cons (i := 5) rfl (Sub.cons (i := 7) rfl (Sub.cons (i := 14) rfl (Sub.cons (i := 15) rfl (Sub.cons (i := 16) rfl (Sub.nil))))))) ?_
    refine TC.regionL ?_
    refine TL.gets (Wants.none rfl) rfl (Gets.move rfl rfl) ?_
    refine TL.gets (Wants.none rfl) rfl (Gets.move rfl rfl) ?_
    refine TL.call (ι := List Int × List Int) (V := fun s => .tuple #[]) (R := fun s => HashOK (M ++ (Ps.take i).flatten ++ Ps.getD i []) s.1 s.2) (H' := fun s => [⟨g, 53, s.1.map (Value.int .u32) ++ (s.2.map (Value.int .u8) ++ ([Value.int .i64 ((M ++ (Ps.take i).flatten ++ Ps.getD i []).length : Int)])), 73⟩]) (Wants.none rfl) rfl enters24 rfl rfl (fun w hs => (take_m (M ++ (Ps.take i).flatten) (Ps.getD i []) st1 rs1 g Ai mi ci w hC2 (hs.has (⟨g, 53, st1.map (Value.int .u32) ++ (rs1.map (Value.int .u8) ++ ([Value.int .i64 ((M ++ (Ps.take i).flatten).length : Int)])), 73⟩) (List.mem_singleton.2 rfl)) (hSi.keep hs (ne_of_ne rfl)) hmi (by have := flat_le (i := i) (Ps := Ps) (by have := hP.1; omega); have := hSi.1; simp only [List.length_append]; omega) (Nat.lt_of_lt_of_le hb1 hs.size) hg1 (hK.keepH hs hb1 (ne_cons (by show g ≠ 1; exact hg1) ne_nil))).mono fun e w' ⟨he, st', rs', h1, h2⟩ => ⟨(st', rs'), he, h1, hs.turn (i := 0) rfl rfl h2⟩) (fun s hs2 => ?_)
    refine TL.nil ?_
    refine TE.blockN ?_
    refine TE.then ?_
    refine TC.sub (Sub.cons (i := 0) rfl (Sub.cons (i := 5) rfl (Sub.cons (i := 14) rfl (Sub.cons (i := 15) rfl (Sub.cons (i := 16) rfl (Sub.nil)))))) ?_
    refine TC.regionL ?_
    refine TL.gets (Wants.none rfl) rfl (Gets.add rfl rfl rfl (r := ((i : Int) + 1)) (w64 (by omega) (by omega))) ?_
    refine TL.gets (Wants.none rfl) rfl (Gets.move rfl rfl) ?_
    refine TL.nil ?_
    exact TE.back (⟨i + 1, s.1, s.2⟩ : WI) (by show m - (i + 1) < m - i; omega) ⟨by show i + 1 ≤ m; omega, by show HashOK (M ++ (Ps.take (i + 1)).flatten) s.1 s.2; rw [flat_succ (by have := hP.1; omega)]; exact hs2⟩ (Sub.cons (i := 0) rfl (Sub.int (i := 5) rfl (by first | rfl | omega) (Sub.slice (i := 14) rfl (by first | rfl | (congr 2; omega)) (by first | omega | (dsimp only; omega) | rfl) (by first | omega | (dsimp only; omega) | rfl) (Sub.int (i := 15) rfl (by first | omega | rfl) (Sub.int (i := 16) rfl (by first | omega | rfl) (Sub.nil)))))) (fun w h => by show St _ [⟨g, _, _ ++ (_ ++ [Value.int .i64 ((M ++ (Ps.take (i + 1)).flatten).length : Int)]), _⟩] w; rw [flat_succ (by have := hP.1; omega)]; exact h)
  · obtain rfl : m = i := by omega
    have hlen : (M ++ (Ps.take m).flatten).length = M.length + Ps.flatten.length := by rw [List.take_of_length_le (by have := hP.1; omega), List.length_append]
    refine TC.exit ?_
    refine TE.thenX ?_
    refine TE.thenX ?_
    refine TE.blockX ?_
    refine TE.then ?_
    refine TC.seq ?_
    refine TC.regionL ?_
    refine TL.gets (Wants.none rfl) rfl (Gets.move rfl rfl) ?_
    refine TL.gets (Wants.none rfl) rfl (Gets.nilCheck rfl rfl) ?_
    refine TL.gets (Wants.none rfl) rfl (Gets.fieldAddr rfl Tryd.underlying53 rfl size3 rfl (off' := 72) (by first | rfl | omega)) ?_
    refine TL.gets (Wants.none rfl) rfl (Gets.load1 rfl agg3 rfl (At.ent (i := 0) (ent := ⟨g, 53, st1.map (Value.int .u32) ++ (rs1.map (Value.int .u8) ++ ([Value.int .i64 ((M ++ (Ps.take m).flatten).length : Int)])), 73⟩) (off := 72) rfl rfl (by exact app_right (a := 8) (i := 64) (ints_len hstx) (app_right (a := 64) (i := 0) (ints_len hrsx) (rfl))))) ?_
    refine TL.gets (Wants.none rfl) rfl (Gets.move rfl rfl) ?_
    refine TL.gets (Wants.none rfl) rfl (Gets.sub rfl rfl rfl (r := (((M ++ (Ps.take m).flatten).length : Int) - (M.length : Int))) (w64 (by omega) (by omega))) ?_
    refine TL.gets (Wants.none rfl) rfl (Gets.assign rfl rfl) ?_
    refine TL.nil ?_
    refine TE.then ?_
    refine TC.ret ?_
    exact TE.ret1 rfl rfl (fun w hs => write_end hP hC2 hs)

set_option maxRecDepth 100000 in
set_option maxHeartbeats 400000 in
theorem writeNil_c (A : Option Addr) (m c : Nat) (w : World) : Calls Tryd.prog 13 #[.pointer none, .slice A m c] w fun e w' => e = .returned (.int .i64 0) ∧ St w [] w' := by
  refine calls_from (args := [.pointer none, .slice A m c]) Tryd.func13 rfl Tryd.ntmps13 (by simp) ?_
  refine TC.sub (Sub.cons (i := 0) rfl (Sub.cons (i := 1) rfl (Sub.nil))) ?_
  refine TC.seq ?_
  refine TC.regionL ?_
  refine TL.gets (Wants.none rfl) rfl (Gets.assign rfl rfl) ?_
  refine TL.nil ?_
  refine TE.then ?_
  refine TC.seq ?_
  refine TC.seq ?_
  refine TC.regionL ?_
  refine TL.gets (Wants.none rfl) rfl (Gets.move rfl rfl) ?_
  refine TL.gets (Wants.none rfl) rfl (Gets.nilNil rfl Tryd.underlying28 rfl rfl) ?_
  refine TL.nil ?_
  refine TE.then ?_
  refine TC.yes rfl ?_
  refine TC.seq ?_
  refine TC.regionL ?_
  refine TL.gets (Wants.none rfl) rfl (Gets.assign rfl rfl) ?_
  refine TL.nil ?_
  refine TE.then ?_
  refine TC.ret ?_
  refine TE.thenR ?_
  exact TE.ret1 rfl rfl (fun w hs => ⟨rfl, hs⟩)
end Go.Proofs.YtdcphpmkhekghaaDoor
