/-
  WireStays: the walk.
-/
import Derived.Test.YtdllgfkcakhoeaaWrC
import Derived.Test.YtdllgfkcakhoeaaAuto
namespace Go.Proofs.Ytdllgfkcakhoeaa
set_option linter.unusedVariables false
set_option linter.unusedSimpArgs false
open Go Go.RowKit
theorem enters16 : Enters Try.prog 16 := ⟨_, Try.func16, by kernel_rfl, by kernel_rfl⟩
theorem enters18 : Enters Try.prog 18 := ⟨_, Try.func18, by kernel_rfl, by kernel_rfl⟩
theorem enters19 : Enters Try.prog 19 := ⟨_, Try.func19, by kernel_rfl, by kernel_rfl⟩
theorem enters20 : Enters Try.prog 20 := ⟨_, Try.func20, by kernel_rfl, by kernel_rfl⟩
theorem size39 : (Try.prog.info? 39).map (·.size) = some 1 := by kernel_rfl
instance : AgN Try.prog 39 := ⟨agg39⟩
instance : AgN Try.prog 5 := ⟨agg5⟩
instance : AgY Try.prog 41 := ⟨agg41⟩
instance : Fld Try.prog 41 0 0 := ⟨⟨_, _, _, Try.underlying41, rfl, size39, rfl⟩⟩
theorem uint_any (g : Nat) (A : Option Addr) (m c k : Nat) (n : Nat) (co po : Int) (hn : 1 ≤ n ∧ n ≤ 8) (w : World) (hl : Ent.lies ⟨g, 63, rdC A m c k co po, rdN⟩ w) (hk : k ≤ m) (hmc : m ≤ c) (hcm : c ≤ 9223372036854775807) (B : List Int) (hX : SrcX w [g] A m .u8 B) (hBB : Bytes B) : Calls Try.prog 12 #[.pointer (some ⟨g, 0, none⟩), .int .i64 (n : Int)] w fun e w' => ∃ (z : Int) (k' : Nat) (co' po' : Int), e = .returned (.int .u64 z) ∧ k' ≤ m ∧ St w [⟨g, 63, rdC A m c (k') co' po', rdN⟩] w' := by
  by_cases hco : co = 0
  · subst hco
    by_cases h : k + n ≤ m
    · exact (uint_ok g A m c k n po hn h w hl hk hmc hcm B hX hBB).mono fun e w' ⟨he, hw⟩ => ⟨_, k + n, 0, po, he, h, hw⟩
    · exact (uint_short g A m c k n po (by omega) (by omega) w hl hk hmc hcm).mono fun e w' ⟨he, hw⟩ => ⟨_, k, 8, m, he, hk, hw⟩
  · exact (uint_f g A m c k co po n hco w hl).mono fun e w' ⟨he, hw⟩ => ⟨_, k, co, po, he, hk, hw.take hl ne_nil⟩
theorem fail_any (g : Nat) (A : Option Addr) (m c k : Nat) (co po d n : Int) (hd : d ≠ 0) (w : World) (hl : Ent.lies ⟨g, 63, rdC A m c k co po, rdN⟩ w) : Calls Try.prog 17 #[.pointer (some ⟨g, 0, none⟩), .int .i64 d, .int .i64 n] w fun e w' => ∃ co' po' : Int, e = .returned (.tuple #[]) ∧ co' ≠ 0 ∧ St w [⟨g, 63, rdC A m c k co' po', rdN⟩] w' := by
  by_cases hco : co = 0
  · subst hco
    exact (fail_set g A m c k po d n hd w hl).mono fun e w' ⟨he, hw⟩ => ⟨d, n, he, hd, hw⟩
  · exact (fail_dead g A m c k co po d n hco w hl).mono fun e w' ⟨he, hw⟩ => ⟨co, po, he, hco, hw.take hl ne_nil⟩

set_option maxRecDepth 100000 in
set_option maxHeartbeats 1000000 in
theorem wireStays_walk (Ab : Option Addr) (mb cb : Nat) (Bb : List Int) (Al : Option Addr) (ml cl : Nat) (Xl : List OV) (x0 x1 : Int) (w : World) (hsb : Src w Ab mb .u8 Bb) (hmcb : mb ≤ cb) (hcmb : cb ≤ 9223372036854775807) (hBb : ∀ x ∈ Bb, 0 ≤ x ∧ x ≤ 255) (hsl : SrcO w Al ml Xl) (hmcl : ml ≤ cl) (hcml : cl ≤ 9223372036854775807) (hNl : ∀ (i : Nat) (x : OV), Xl[i]? = some x → OkO w x) (bx0 : 0 ≤ x0 ∧ x0 ≤ 255) (bx1 : 0 ≤ x1 ∧ x1 ≤ 255) : Calls Try.prog 5 #[.slice Ab mb cb, .slice Al ml cl, .agg ([Value.int .u8 x0, Value.int .u8 x1]).toArray] w fun e w' => e = .returned (.bool true) ∧ St w [] w' := by
  refine calls_from (args := [.slice Ab mb cb, .slice Al ml cl, .agg ([Value.int .u8 x0, Value.int .u8 x1]).toArray]) Try.func5 rfl Try.ntmps5 (by simp) ?_
  refine TC.pr [0, 1, 2] ?_
  iterate 2 refine gx ?_
  refine TL.bxA (fun g1 hg1 => ?_)
  iterate 8 refine gx ?_
  by_cases c1 : 1000 < (mb : Int)
  · refine TL.gets (Wants.none rfl) rfl (Gets.isTrue (Gets.gtr rfl rfl rfl) c1) ?_
    iterate 7 refine gx ?_
    refine TC.pr [0, 1, 5, 6, 19] ?_
    refine TC.yes rfl ?_
    iterate 2 refine gx ?_
    refine TL.call0 (Wants.none rfl) rfl enters7 rfl rfl (v := .bool true) (fun w hs => alive_c w) ?_
    iterate 5 refine gx ?_
    exact TE.ret1 rfl rfl (fun w hs => ⟨rfl, St.left (H := []) hs (Fresh.cons (by assumption) Fresh.nil)⟩)
  · refine TL.gets (Wants.none rfl) rfl (Gets.isFalse (Gets.gtr rfl rfl rfl) c1) ?_
    iterate 2 refine gx ?_
    by_cases c2 : fewO ml Xl
    · refine TL.call0 (Wants.yes rfl rfl rfl) rfl enters16 rfl rfl (v := .bool true) (fun w hs => (few_c Xl Al ml cl w (hsl.at_ hs (fun b hb => (ne_cons (by show g1 ≠ b; omega) ne_nil))) hmcl hcml (fun i x hx => (hNl i x hx).at_ hs (fun b hb => (ne_cons (by show g1 ≠ b; omega) ne_nil)))).mono fun e w' h => by rw [decide_eq_true (p := fewO ml Xl) c2] at h; exact h) ?_
      iterate 4 refine gx ?_
      refine TC.pr [0, 1, 5, 6, 19] ?_
      refine TC.no rfl ?_
      iterate 5 refine gx ?_
      refine TL.call (ι := Nat × (Option Addr × Nat) × List Ent) (V := fun y => .pointer (some ⟨y.1, 0, none⟩)) (R := fun y => (Own w.heap.size 5 .u8 (.slice y.2.1.1 mb y.2.1.2) Bb y.2.2) ∧ w.heap.size ≤ y.1) (H' := fun y => [⟨g1, 45, [Value.int .u8 x0, Value.int .u8 x1], 2⟩] ++ (⟨y.1, 63, rdC y.2.1.1 mb y.2.1.2 0 0 0, rdN⟩ :: y.2.2)) (Wants.none rfl) rfl enters11 rfl rfl (fun w hs => (new_c Bb Ab mb cb w (hsb.at_ hs (fun b hb => (ne_cons (by show g1 ≠ b; omega) ne_nil))) (by omega) (by omega)).mono fun e w' ⟨g, A', c', He, he, ho, hg, hw⟩ => ⟨(g, (A', c'), He), he, ⟨own_mono ho hs.size, Nat.le_trans hs.size hg⟩, st_call hs hw (Fresh.cons (w0 := w) hg ho.new)⟩) (fun y hR => ?_)
      obtain ⟨gr, ⟨Ad, cd⟩, Hd⟩ := y
      obtain ⟨hod, hgr⟩ := hR
      dsimp only at hod hgr ⊢
      have hFd : Fresh w Hd := hod.new
      obtain ⟨hcd, hcd2⟩ : mb ≤ cd ∧ cd ≤ 9223372036854775807 := by obtain ⟨_, _, h1, h2, h3⟩ := hod.form; cases h1; exact ⟨by omega, h3⟩
      refine TL.heap (H' := ([(⟨gr, 63, [Value.slice Ad mb cd, Value.int .i64 0, Value.int .i64 0, Value.int .i64 0], 4⟩ : Ent)] ++ ([⟨g1, 45, [Value.int .u8 x0, Value.int .u8 x1], 2⟩])) ++ Hd) (fun w h => h.perm List.perm_middle) ?_
      iterate 7 refine gx ?_
      refine TL.gets (Wants.none rfl) rfl (Gets.ptrNil rfl Try.underlying32 rfl rfl) ?_
      iterate 2 refine gx ?_
      refine TC.pr [1, 5, 6, 7, 24] ?_
      refine TC.no rfl ?_
      iterate 5 refine gx ?_
      refine TL.call (ι := Int × Nat × Int × Int) (V := fun y => .int .u64 y.1) (R := fun y => y.2.1 ≤ mb) (H' := fun y => [⟨gr, 63, [Value.slice Ad mb cd, Value.int .i64 (y.2.1 : Int), Value.int .i64 y.2.2.1, Value.int .i64 y.2.2.2], 4⟩, ⟨g1, 45, [Value.int .u8 x0, Value.int .u8 x1], 2⟩] ++ Hd) (Wants.none rfl) rfl enters12 rfl rfl (fun w hs => (uint_any gr Ad mb cd 0 1 0 0 (by omega) w (hs.has (⟨gr, 63, [Value.slice Ad mb cd, Value.int .i64 0, Value.int .i64 0, Value.int .i64 0], 4⟩) (by simp)) (by omega) (by omega) (by omega) Bb (hod.srcX (fun q9 hq9 => (show St _ (([⟨gr, 63, [Value.slice Ad mb cd, Value.int .i64 0, Value.int .i64 0, Value.int .i64 0], 4⟩, ⟨g1, 45, [Value.int .u8 x0, Value.int .u8 x1], 2⟩] : List Ent) ++ (Hd)) _ from hs).has q9 (List.mem_append_right _ (by simp [hq9]))) (fun q9 hq9 z9 hz9 => by rw [List.mem_singleton.1 hz9]; exact (show St _ (([⟨gr, 63, [Value.slice Ad mb cd, Value.int .i64 0, Value.int .i64 0, Value.int .i64 0], 4⟩, ⟨g1, 45, [Value.int .u8 x0, Value.int .u8 x1], 2⟩] : List Ent) ++ (Hd)) _ from hs).beside (d := ⟨gr, 63, [Value.slice Ad mb cd, Value.int .i64 0, Value.int .i64 0, Value.int .i64 0], 4⟩) (by simp) q9 (by simp [hq9]))) hBb).mono fun e w' ⟨z, k', c', p', he, hk, hw⟩ => ⟨(z, k', c', p'), he, hk, St.turn (i := 0) (e := ⟨gr, 63, [Value.slice Ad mb cd, Value.int .i64 (k' : Int), Value.int .i64 c', Value.int .i64 p'], 4⟩) hs rfl rfl hw⟩) (fun y hk1 => ?_)
      obtain ⟨z1, k1, c1_, p1⟩ := y
      dsimp only at hk1 ⊢
      iterate 5 refine gx ?_
      refine TL.gets (Wants.none rfl) rfl (Gets.idxArray rfl Try.underlying45 size5 rfl rfl (i := 0) (by rfl) (by omega) (off' := 0) (by omega)) ?_
      refine gx ?_
      refine TL.gets (Wants.none rfl) rfl (Gets.conv rfl Try.underlying5 Try.underlying3 rfl (r := x0) (w64 rfl (by omega))) ?_
      refine TL.gets (Wants.none rfl) rfl (Gets.add rfl rfl rfl (r := (x0 + 1)) (w64 (by omega) (by omega))) ?_
      refine TL.gets (Wants.none rfl) rfl (Gets.idxArray rfl Try.underlying45 size5 rfl rfl (i := 1) (by rfl) (by omega) (off' := 1) (by omega)) ?_
      refine gx ?_
      refine TL.gets (Wants.none rfl) rfl (Gets.conv rfl Try.underlying5 Try.underlying3 rfl (r := x1) (w64 rfl (by omega))) ?_
      refine TL.call (ι := Int × Int) (V := fun y => .tuple #[]) (R := fun y => y.1 ≠ 0) (H' := fun y => [⟨gr, 63, [Value.slice Ad mb cd, Value.int .i64 (k1 : Int), Value.int .i64 y.1, Value.int .i64 y.2], 4⟩, ⟨g1, 45, [Value.int .u8 x0, Value.int .u8 x1], 2⟩] ++ Hd) (Wants.none rfl) rfl enters17 rfl rfl (fun w hs => (fail_any gr Ad mb cd k1 c1_ p1 (x0 + 1) x1 (by omega) w (hs.has (⟨gr, 63, [Value.slice Ad mb cd, Value.int .i64 (k1 : Int), Value.int .i64 c1_, Value.int .i64 p1], 4⟩) (by simp))).mono fun e w' ⟨c', p', he, hc, hw⟩ => ⟨(c', p'), he, hc, St.turn (i := 0) (e := ⟨gr, 63, [Value.slice Ad mb cd, Value.int .i64 (k1 : Int), Value.int .i64 c', Value.int .i64 p'], 4⟩) hs rfl rfl hw⟩) (fun y hco => ?_)
      obtain ⟨co, po⟩ := y
      dsimp only at hco ⊢
      iterate 2 refine gx ?_
      refine TC.pr [1, 6, 7] ?_
      iterate 3 refine gx ?_
      refine TL.call0 (Wants.none rfl) rfl enters15 rfl rfl (v := .agg ([Value.int .i64 co, Value.int .i64 po]).toArray) (fun w hs => fault_c gr Ad mb cd k1 co po w (hs.has (⟨gr, 63, [Value.slice Ad mb cd, Value.int .i64 (k1 : Int), Value.int .i64 co, Value.int .i64 po], 4⟩) (by simp))) ?_
      refine gx ?_
      refine TL.call0 (Wants.none rfl) rfl enters14 rfl rfl (v := .int .i64 (k1 : Int)) (fun w hs => at_c gr Ad mb cd k1 co po w (hs.has (⟨gr, 63, [Value.slice Ad mb cd, Value.int .i64 (k1 : Int), Value.int .i64 co, Value.int .i64 po], 4⟩) (by simp))) ?_
      refine TL.al (fun g2 hg2 => ?_)
      refine TL.storeW (Wants.none rfl) rfl rfl size41 rfl (vs := [Value.int .i64 co, Value.int .i64 po]) rfl (by simp []) (by simp [Value.oneCell']) (i := 0) (ent := ⟨g2, 41, [Value.int .i64 0, Value.int .i64 0], 2⟩) rfl rfl (by simp []) (H' := [⟨g2, 41, [Value.int .i64 co, Value.int .i64 po], 2⟩, ⟨gr, 63, [Value.slice Ad mb cd, Value.int .i64 (k1 : Int), Value.int .i64 co, Value.int .i64 po], 4⟩, ⟨g1, 45, [Value.int .u8 x0, Value.int .u8 x1], 2⟩] ++ Hd) rfl ?_
      iterate 3 refine gx ?_
      refine TC.pr [1, 6, 7, 8, 9] ?_
      iterate 9 refine gx ?_
      refine TC.loop (ι := Nat) (fun i => [(7, .pointer (some ⟨gr, 0, none⟩)), (8, .pointer (some ⟨g2, 0, none⟩)), (9, .int .i64 (k1 : Int)), (40, .slice Al ml cl), (41, .int .i64 (ml : Int)), (42, .int .i64 (i : Int))]) (fun i => [⟨g2, 41, [Value.int .i64 co, Value.int .i64 po], 2⟩, ⟨gr, 63, [Value.slice Ad mb cd, Value.int .i64 (k1 : Int), Value.int .i64 co, Value.int .i64 po], 4⟩, ⟨g1, 45, [Value.int .u8 x0, Value.int .u8 x1], 2⟩] ++ Hd) (fun i => ml - i) (fun i => i ≤ ml) 0 (Nat.zero_le _) (Sub.cons (i := 7) rfl (Sub.cons (i := 8) rfl (Sub.int (i := 9) rfl (by first | omega | rfl) (Sub.slice (i := 40) rfl rfl (by first | omega | (dsimp only; omega) | rfl) (by first | omega | (dsimp only; omega) | rfl) (Sub.int (i := 41) rfl (by first | omega | rfl) (Sub.int (i := 42) rfl (by first | omega | rfl) (Sub.nil))))))) (fun w h => h) (fun i hC0 => ?_)
      iterate 6 refine gx ?_
      refine TC.split rfl (fun hq3 => ?_) (fun hq3 => ?_)
      · obtain ⟨b, off, hAe, hb, hrw⟩ := hsl.some_ (i := i) (by omega)
        subst hAe
        obtain ⟨x, hx⟩ := hsl.get (i := i) (by omega)
        have hox := hNl i x hx
        unfold OkO at hox
        iterate 6 refine gx ?_
        refine TL.gets (Wants.none rfl) rfl (Gets.idxSlice rfl Try.underlying44 size49 rfl rfl (i := i) (by omega) (by omega) (off' := (off + 3 * i)) (by omega)) ?_
        refine TL.gets (Wants.none rfl) rfl (Gets.loadN rfl agg49 size49 rfl rfl (Row.old (fun jj u h => hrw i x hx jj u h) hb (ne_app (ne_cons (by show g2 ≠ b; omega) (ne_cons (by show gr ≠ b; omega) (ne_cons (by show g1 ≠ b; omega) ne_nil))) (hFd.ne hb)))) ?_
        refine TL.al (fun g3 hg3 => ?_)
        refine TL.storeW (Wants.none rfl) rfl rfl size49 rfl (vs := [Value.int .i64 x.k, Value.int .i64 x.n, Value.slice x.A x.m x.c]) rfl (by simp []) (by simp [Value.oneCell']) (i := 0) (ent := ⟨g3, 49, [Value.int .i64 0, Value.int .i64 0, Value.slice none 0 0], 3⟩) rfl rfl (by simp []) (H' := [⟨g3, 49, [Value.int .i64 x.k, Value.int .i64 x.n, Value.slice x.A x.m x.c], 3⟩, ⟨g2, 41, [Value.int .i64 co, Value.int .i64 po], 2⟩, ⟨gr, 63, [Value.slice Ad mb cd, Value.int .i64 (k1 : Int), Value.int .i64 co, Value.int .i64 po], 4⟩, ⟨g1, 45, [Value.int .u8 x0, Value.int .u8 x1], 2⟩] ++ Hd) rfl ?_
        iterate 2 refine gx ?_
        refine TC.pr [7, 8, 9, 11, 40, 41, 42] ?_
        iterate 4 refine gx ?_
        by_cases k0 : x.k = 0
        · refine TL.gets (Wants.none rfl) rfl (Gets.isTrue (Gets.eql rfl rfl rfl) k0) ?_
          iterate 4 refine gx ?_
          refine TL.call0 (Wants.yes rfl rfl rfl) rfl enters12 rfl rfl (v := .int .u64 0) (fun w hs => uint_f gr Ad mb cd k1 co po x.n hco w (hs.has (⟨gr, 63, [Value.slice Ad mb cd, Value.int .i64 (k1 : Int), Value.int .i64 co, Value.int .i64 po], 4⟩) (by simp))) ?_
          refine TL.gets (Wants.yes rfl rfl rfl) rfl (Gets.isFalse (Gets.neq rfl rfl rfl) (fun h => h rfl)) ?_
          iterate 4 refine gx ?_
          by_cases k1_ : x.k = 1
          · refine TL.gets (Wants.yes rfl rfl rfl) rfl (Gets.isTrue (Gets.eql rfl rfl rfl) k1_) ?_
            iterate 2 refine gx ?_
            refine TL.call0 (Wants.yes rfl rfl rfl) rfl enters18 rfl rfl (v := .int .i64 0) (fun w hs => length_f gr Ad mb cd k1 co po hco w (hs.has (⟨gr, 63, [Value.slice Ad mb cd, Value.int .i64 (k1 : Int), Value.int .i64 co, Value.int .i64 po], 4⟩) (by simp))) ?_
            refine TL.gets (Wants.yes rfl rfl rfl) rfl (Gets.isFalse (Gets.neq rfl rfl rfl) (fun h => h rfl)) ?_
            iterate 5 refine gx ?_
            by_cases k2 : x.k = 2
            · refine TL.gets (Wants.yes rfl rfl rfl) rfl (Gets.isTrue (Gets.eql rfl rfl rfl) k2) ?_
              iterate 4 refine gx ?_
              refine TL.call0 (Wants.yes rfl rfl rfl) rfl enters19 rfl rfl (v := .slice none 0 0) (fun w hs => bytes_f gr Ad mb cd k1 co po x.n hco w (hs.has (⟨gr, 63, [Value.slice Ad mb cd, Value.int .i64 (k1 : Int), Value.int .i64 co, Value.int .i64 po], 4⟩) (by simp))) ?_
              refine gx ?_
              refine TL.gets (Wants.yes rfl rfl rfl) rfl (Gets.isFalse (Gets.neq rfl rfl rfl) (fun h => h rfl)) ?_
              iterate 5 refine gx ?_
              by_cases k3 : x.k = 3
              · refine TL.gets (Wants.yes rfl rfl rfl) rfl (Gets.isTrue (Gets.eql rfl rfl rfl) k3) ?_
                iterate 4 refine gx ?_
                refine TL.call0 (Wants.yes rfl rfl rfl) rfl enters20 rfl rfl (v := .bool false) (fun w hs => expect_f gr Ad mb cd k1 co po 9 x.A x.m x.c hco w (hs.has (⟨gr, 63, [Value.slice Ad mb cd, Value.int .i64 (k1 : Int), Value.int .i64 co, Value.int .i64 po], 4⟩) (by simp))) ?_
                iterate 4 refine gx ?_
                refine TC.pr [7, 8, 9, 40, 41, 42, 89] ?_
                refine TC.no rfl ?_
                iterate 4 refine gx ?_
                refine TL.gets (Wants.none rfl) rfl (Gets.add rfl rfl rfl (r := ((i : Int) + 1)) (w64 (by omega) (by omega))) ?_
                iterate 2 refine gx ?_
                exact TE.back (i + 1) (by omega) (by omega) (Sub.cons (i := 7) rfl (Sub.cons (i := 8) rfl (Sub.int (i := 9) rfl (by first | omega | rfl) (Sub.slice (i := 40) rfl (by first | rfl | (congr 2; omega)) (by first | omega | (dsimp only; omega) | rfl) (by first | omega | (dsimp only; omega) | rfl) (Sub.int (i := 41) rfl (by first | omega | rfl) (Sub.int (i := 42) rfl (by first | omega | rfl) (Sub.nil))))))) (fun w h => h.drop (by assumption))
              · refine TL.gets (Wants.yes rfl rfl rfl) rfl (Gets.isFalse (Gets.eql rfl rfl rfl) k3) ?_
                iterate 9 refine gx ?_
                refine TC.pr [7, 8, 9, 40, 41, 42, 89] ?_
                refine TC.no rfl ?_
                iterate 4 refine gx ?_
                refine TL.gets (Wants.none rfl) rfl (Gets.add rfl rfl rfl (r := ((i : Int) + 1)) (w64 (by omega) (by omega))) ?_
                iterate 2 refine gx ?_
                exact TE.back (i + 1) (by omega) (by omega) (Sub.cons (i := 7) rfl (Sub.cons (i := 8) rfl (Sub.int (i := 9) rfl (by first | omega | rfl) (Sub.slice (i := 40) rfl (by first | rfl | (congr 2; omega)) (by first | omega | (dsimp only; omega) | rfl) (by first | omega | (dsimp only; omega) | rfl) (Sub.int (i := 41) rfl (by first | omega | rfl) (Sub.int (i := 42) rfl (by first | omega | rfl) (Sub.nil))))))) (fun w h => h.drop (by assumption))
            · refine TL.gets (Wants.yes rfl rfl rfl) rfl (Gets.isFalse (Gets.eql rfl rfl rfl) k2) ?_
              iterate 12 refine gx ?_
              by_cases k3 : x.k = 3
              · refine TL.gets (Wants.yes rfl rfl rfl) rfl (Gets.isTrue (Gets.eql rfl rfl rfl) k3) ?_
                iterate 4 refine gx ?_
                refine TL.call0 (Wants.yes rfl rfl rfl) rfl enters20 rfl rfl (v := .bool false) (fun w hs => expect_f gr Ad mb cd k1 co po 9 x.A x.m x.c hco w (hs.has (⟨gr, 63, [Value.slice Ad mb cd, Value.int .i64 (k1 : Int), Value.int .i64 co, Value.int .i64 po], 4⟩) (by simp))) ?_
                iterate 4 refine gx ?_
                refine TC.pr [7, 8, 9, 40, 41, 42, 89] ?_
                refine TC.no rfl ?_
                iterate 4 refine gx ?_
                refine TL.gets (Wants.none rfl) rfl (Gets.add rfl rfl rfl (r := ((i : Int) + 1)) (w64 (by omega) (by omega))) ?_
                iterate 2 refine gx ?_
                exact TE.back (i + 1) (by omega) (by omega) (Sub.cons (i := 7) rfl (Sub.cons (i := 8) rfl (Sub.int (i := 9) rfl (by first | omega | rfl) (Sub.slice (i := 40) rfl (by first | rfl | (congr 2; omega)) (by first | omega | (dsimp only; omega) | rfl) (by first | omega | (dsimp only; omega) | rfl) (Sub.int (i := 41) rfl (by first | omega | rfl) (Sub.int (i := 42) rfl (by first | omega | rfl) (Sub.nil))))))) (fun w h => h.drop (by assumption))
              · refine TL.gets (Wants.yes rfl rfl rfl) rfl (Gets.isFalse (Gets.eql rfl rfl rfl) k3) ?_
                iterate 9 refine gx ?_
                refine TC.pr [7, 8, 9, 40, 41, 42, 89] ?_
                refine TC.no rfl ?_
                iterate 4 refine gx ?_
                refine TL.gets (Wants.none rfl) rfl (Gets.add rfl rfl rfl (r := ((i : Int) + 1)) (w64 (by omega) (by omega))) ?_
                iterate 2 refine gx ?_
                exact TE.back (i + 1) (by omega) (by omega) (Sub.cons (i := 7) rfl (Sub.cons (i := 8) rfl (Sub.int (i := 9) rfl (by first | omega | rfl) (Sub.slice (i := 40) rfl (by first | rfl | (congr 2; omega)) (by first | omega | (dsimp only; omega) | rfl) (by first | omega | (dsimp only; omega) | rfl) (Sub.int (i := 41) rfl (by first | omega | rfl) (Sub.int (i := 42) rfl (by first | omega | rfl) (Sub.nil))))))) (fun w h => h.drop (by assumption))
          · refine TL.gets (Wants.yes rfl rfl rfl) rfl (Gets.isFalse (Gets.eql rfl rfl rfl) k1_) ?_
            iterate 9 refine gx ?_
            by_cases k2 : x.k = 2
            · refine TL.gets (Wants.yes rfl rfl rfl) rfl (Gets.isTrue (Gets.eql rfl rfl rfl) k2) ?_
              iterate 4 refine gx ?_
              refine TL.call0 (Wants.yes rfl rfl rfl) rfl enters19 rfl rfl (v := .slice none 0 0) (fun w hs => bytes_f gr Ad mb cd k1 co po x.n hco w (hs.has (⟨gr, 63, [Value.slice Ad mb cd, Value.int .i64 (k1 : Int), Value.int .i64 co, Value.int .i64 po], 4⟩) (by simp))) ?_
              refine gx ?_
              refine TL.gets (Wants.yes rfl rfl rfl) rfl (Gets.isFalse (Gets.neq rfl rfl rfl) (fun h => h rfl)) ?_
              iterate 5 refine gx ?_
              by_cases k3 : x.k = 3
              · refine TL.gets (Wants.yes rfl rfl rfl) rfl (Gets.isTrue (Gets.eql rfl rfl rfl) k3) ?_
                iterate 4 refine gx ?_
                refine TL.call0 (Wants.yes rfl rfl rfl) rfl enters20 rfl rfl (v := .bool false) (fun w hs => expect_f gr Ad mb cd k1 co po 9 x.A x.m x.c hco w (hs.has (⟨gr, 63, [Value.slice Ad mb cd, Value.int .i64 (k1 : Int), Value.int .i64 co, Value.int .i64 po], 4⟩) (by simp))) ?_
                iterate 4 refine gx ?_
                refine TC.pr [7, 8, 9, 40, 41, 42, 89] ?_
                refine TC.no rfl ?_
                iterate 4 refine gx ?_
                refine TL.gets (Wants.none rfl) rfl (Gets.add rfl rfl rfl (r := ((i : Int) + 1)) (w64 (by omega) (by omega))) ?_
                iterate 2 refine gx ?_
                exact TE.back (i + 1) (by omega) (by omega) (Sub.cons (i := 7) rfl (Sub.cons (i := 8) rfl (Sub.int (i := 9) rfl (by first | omega | rfl) (Sub.slice (i := 40) rfl (by first | rfl | (congr 2; omega)) (by first | omega | (dsimp only; omega) | rfl) (by first | omega | (dsimp only; omega) | rfl) (Sub.int (i := 41) rfl (by first | omega | rfl) (Sub.int (i := 42) rfl (by first | omega | rfl) (Sub.nil))))))) (fun w h => h.drop (by assumption))
              · refine TL.gets (Wants.yes rfl rfl rfl) rfl (Gets.isFalse (Gets.eql rfl rfl rfl) k3) ?_
                iterate 9 refine gx ?_
                refine TC.pr [7, 8, 9, 40, 41, 42, 89] ?_
                refine TC.no rfl ?_
                iterate 4 refine gx ?_
                refine TL.gets (Wants.none rfl) rfl (Gets.add rfl rfl rfl (r := ((i : Int) + 1)) (w64 (by omega) (by omega))) ?_
                iterate 2 refine gx ?_
                exact TE.back (i + 1) (by omega) (by omega) (Sub.cons (i := 7) rfl (Sub.cons (i := 8) rfl (Sub.int (i := 9) rfl (by first | omega | rfl) (Sub.slice (i := 40) rfl (by first | rfl | (congr 2; omega)) (by first | omega | (dsimp only; omega) | rfl) (by first | omega | (dsimp only; omega) | rfl) (Sub.int (i := 41) rfl (by first | omega | rfl) (Sub.int (i := 42) rfl (by first | omega | rfl) (Sub.nil))))))) (fun w h => h.drop (by assumption))
            · refine TL.gets (Wants.yes rfl rfl rfl) rfl (Gets.isFalse (Gets.eql rfl rfl rfl) k2) ?_
              iterate 12 refine gx ?_
              by_cases k3 : x.k = 3
              · refine TL.gets (Wants.yes rfl rfl rfl) rfl (Gets.isTrue (Gets.eql rfl rfl rfl) k3) ?_
                iterate 4 refine gx ?_
                refine TL.call0 (Wants.yes rfl rfl rfl) rfl enters20 rfl rfl (v := .bool false) (fun w hs => expect_f gr Ad mb cd k1 co po 9 x.A x.m x.c hco w (hs.has (⟨gr, 63, [Value.slice Ad mb cd, Value.int .i64 (k1 : Int), Value.int .i64 co, Value.int .i64 po], 4⟩) (by simp))) ?_
                iterate 4 refine gx ?_
                refine TC.pr [7, 8, 9, 40, 41, 42, 89] ?_
                refine TC.no rfl ?_
                iterate 4 refine gx ?_
                refine TL.gets (Wants.none rfl) rfl (Gets.add rfl rfl rfl (r := ((i : Int) + 1)) (w64 (by omega) (by omega))) ?_
                iterate 2 refine gx ?_
                exact TE.back (i + 1) (by omega) (by omega) (Sub.cons (i := 7) rfl (Sub.cons (i := 8) rfl (Sub.int (i := 9) rfl (by first | omega | rfl) (Sub.slice (i := 40) rfl (by first | rfl | (congr 2; omega)) (by first | omega | (dsimp only; omega) | rfl) (by first | omega | (dsimp only; omega) | rfl) (Sub.int (i := 41) rfl (by first | omega | rfl) (Sub.int (i := 42) rfl (by first | omega | rfl) (Sub.nil))))))) (fun w h => h.drop (by assumption))
              · refine TL.gets (Wants.yes rfl rfl rfl) rfl (Gets.isFalse (Gets.eql rfl rfl rfl) k3) ?_
                iterate 9 refine gx ?_
                refine TC.pr [7, 8, 9, 40, 41, 42, 89] ?_
                refine TC.no rfl ?_
                iterate 4 refine gx ?_
                refine TL.gets (Wants.none rfl) rfl (Gets.add rfl rfl rfl (r := ((i : Int) + 1)) (w64 (by omega) (by omega))) ?_
                iterate 2 refine gx ?_
                exact TE.back (i + 1) (by omega) (by omega) (Sub.cons (i := 7) rfl (Sub.cons (i := 8) rfl (Sub.int (i := 9) rfl (by first | omega | rfl) (Sub.slice (i := 40) rfl (by first | rfl | (congr 2; omega)) (by first | omega | (dsimp only; omega) | rfl) (by first | omega | (dsimp only; omega) | rfl) (Sub.int (i := 41) rfl (by first | omega | rfl) (Sub.int (i := 42) rfl (by first | omega | rfl) (Sub.nil))))))) (fun w h => h.drop (by assumption))
        · refine TL.gets (Wants.none rfl) rfl (Gets.isFalse (Gets.eql rfl rfl rfl) k0) ?_
          iterate 10 refine gx ?_
          by_cases k1_ : x.k = 1
          · refine TL.gets (Wants.yes rfl rfl rfl) rfl (Gets.isTrue (Gets.eql rfl rfl rfl) k1_) ?_
            iterate 2 refine gx ?_
            refine TL.call0 (Wants.yes rfl rfl rfl) rfl enters18 rfl rfl (v := .int .i64 0) (fun w hs => length_f gr Ad mb cd k1 co po hco w (hs.has (⟨gr, 63, [Value.slice Ad mb cd, Value.int .i64 (k1 : Int), Value.int .i64 co, Value.int .i64 po], 4⟩) (by simp))) ?_
            refine TL.gets (Wants.yes rfl rfl rfl) rfl (Gets.isFalse (Gets.neq rfl rfl rfl) (fun h => h rfl)) ?_
            iterate 5 refine gx ?_
            by_cases k2 : x.k = 2
            · refine TL.gets (Wants.yes rfl rfl rfl) rfl (Gets.isTrue (Gets.eql rfl rfl rfl) k2) ?_
              iterate 4 refine gx ?_
              refine TL.call0 (Wants.yes rfl rfl rfl) rfl enters19 rfl rfl (v := .slice none 0 0) (fun w hs => bytes_f gr Ad mb cd k1 co po x.n hco w (hs.has (⟨gr, 63, [Value.slice Ad mb cd, Value.int .i64 (k1 : Int), Value.int .i64 co, Value.int .i64 po], 4⟩) (by simp))) ?_
              refine gx ?_
              refine TL.gets (Wants.yes rfl rfl rfl) rfl (Gets.isFalse (Gets.neq rfl rfl rfl) (fun h => h rfl)) ?_
              iterate 5 refine gx ?_
              by_cases k3 : x.k = 3
              · refine TL.gets (Wants.yes rfl rfl rfl) rfl (Gets.isTrue (Gets.eql rfl rfl rfl) k3) ?_
                iterate 4 refine gx ?_
                refine TL.call0 (Wants.yes rfl rfl rfl) rfl enters20 rfl rfl (v := .bool false) (fun w hs => expect_f gr Ad mb cd k1 co po 9 x.A x.m x.c hco w (hs.has (⟨gr, 63, [Value.slice Ad mb cd, Value.int .i64 (k1 : Int), Value.int .i64 co, Value.int .i64 po], 4⟩) (by simp))) ?_
                iterate 4 refine gx ?_
                refine TC.pr [7, 8, 9, 40, 41, 42, 89] ?_
                refine TC.no rfl ?_
                iterate 4 refine gx ?_
                refine TL.gets (Wants.none rfl) rfl (Gets.add rfl rfl rfl (r := ((i : Int) + 1)) (w64 (by omega) (by omega))) ?_
                iterate 2 refine gx ?_
                exact TE.back (i + 1) (by omega) (by omega) (Sub.cons (i := 7) rfl (Sub.cons (i := 8) rfl (Sub.int (i := 9) rfl (by first | omega | rfl) (Sub.slice (i := 40) rfl (by first | rfl | (congr 2; omega)) (by first | omega | (dsimp only; omega) | rfl) (by first | omega | (dsimp only; omega) | rfl) (Sub.int (i := 41) rfl (by first | omega | rfl) (Sub.int (i := 42) rfl (by first | omega | rfl) (Sub.nil))))))) (fun w h => h.drop (by assumption))
              · refine TL.gets (Wants.yes rfl rfl rfl) rfl (Gets.isFalse (Gets.eql rfl rfl rfl) k3) ?_
                iterate 9 refine gx ?_
                refine TC.pr [7, 8, 9, 40, 41, 42, 89] ?_
                refine TC.no rfl ?_
                iterate 4 refine gx ?_
                refine TL.gets (Wants.none rfl) rfl (Gets.add rfl rfl rfl (r := ((i : Int) + 1)) (w64 (by omega) (by omega))) ?_
                iterate 2 refine gx ?_
                exact TE.back (i + 1) (by omega) (by omega) (Sub.cons (i := 7) rfl (Sub.cons (i := 8) rfl (Sub.int (i := 9) rfl (by first | omega | rfl) (Sub.slice (i := 40) rfl (by first | rfl | (congr 2; omega)) (by first | omega | (dsimp only; omega) | rfl) (by first | omega | (dsimp only; omega) | rfl) (Sub.int (i := 41) rfl (by first | omega | rfl) (Sub.int (i := 42) rfl (by first | omega | rfl) (Sub.nil))))))) (fun w h => h.drop (by assumption))
            · refine TL.gets (Wants.yes rfl rfl rfl) rfl (Gets.isFalse (Gets.eql rfl rfl rfl) k2) ?_
              iterate 12 refine gx ?_
              by_cases k3 : x.k = 3
              · refine TL.gets (Wants.yes rfl rfl rfl) rfl (Gets.isTrue (Gets.eql rfl rfl rfl) k3) ?_
                iterate 4 refine gx ?_
                refine TL.call0 (Wants.yes rfl rfl rfl) rfl enters20 rfl rfl (v := .bool false) (fun w hs => expect_f gr Ad mb cd k1 co po 9 x.A x.m x.c hco w (hs.has (⟨gr, 63, [Value.slice Ad mb cd, Value.int .i64 (k1 : Int), Value.int .i64 co, Value.int .i64 po], 4⟩) (by simp))) ?_
                iterate 4 refine gx ?_
                refine TC.pr [7, 8, 9, 40, 41, 42, 89] ?_
                refine TC.no rfl ?_
                iterate 4 refine gx ?_
                refine TL.gets (Wants.none rfl) rfl (Gets.add rfl rfl rfl (r := ((i : Int) + 1)) (w64 (by omega) (by omega))) ?_
                iterate 2 refine gx ?_
                exact TE.back (i + 1) (by omega) (by omega) (Sub.cons (i := 7) rfl (Sub.cons (i := 8) rfl (Sub.int (i := 9) rfl (by first | omega | rfl) (Sub.slice (i := 40) rfl (by first | rfl | (congr 2; omega)) (by first | omega | (dsimp only; omega) | rfl) (by first | omega | (dsimp only; omega) | rfl) (Sub.int (i := 41) rfl (by first | omega | rfl) (Sub.int (i := 42) rfl (by first | omega | rfl) (Sub.nil))))))) (fun w h => h.drop (by assumption))
              · refine TL.gets (Wants.yes rfl rfl rfl) rfl (Gets.isFalse (Gets.eql rfl rfl rfl) k3) ?_
                iterate 9 refine gx ?_
                refine TC.pr [7, 8, 9, 40, 41, 42, 89] ?_
                refine TC.no rfl ?_
                iterate 4 refine gx ?_
                refine TL.gets (Wants.none rfl) rfl (Gets.add rfl rfl rfl (r := ((i : Int) + 1)) (w64 (by omega) (by omega))) ?_
                iterate 2 refine gx ?_
                exact TE.back (i + 1) (by omega) (by omega) (Sub.cons (i := 7) rfl (Sub.cons (i := 8) rfl (Sub.int (i := 9) rfl (by first | omega | rfl) (Sub.slice (i := 40) rfl (by first | rfl | (congr 2; omega)) (by first | omega | (dsimp only; omega) | rfl) (by first | omega | (dsimp only; omega) | rfl) (Sub.int (i := 41) rfl (by first | omega | rfl) (Sub.int (i := 42) rfl (by first | omega | rfl) (Sub.nil))))))) (fun w h => h.drop (by assumption))
          · refine TL.gets (Wants.yes rfl rfl rfl) rfl (Gets.isFalse (Gets.eql rfl rfl rfl) k1_) ?_
            iterate 9 refine gx ?_
            by_cases k2 : x.k = 2
            · refine TL.gets (Wants.yes rfl rfl rfl) rfl (Gets.isTrue (Gets.eql rfl rfl rfl) k2) ?_
              iterate 4 refine gx ?_
              refine TL.call0 (Wants.yes rfl rfl rfl) rfl enters19 rfl rfl (v := .slice none 0 0) (fun w hs => bytes_f gr Ad mb cd k1 co po x.n hco w (hs.has (⟨gr, 63, [Value.slice Ad mb cd, Value.int .i64 (k1 : Int), Value.int .i64 co, Value.int .i64 po], 4⟩) (by simp))) ?_
              refine gx ?_
              refine TL.gets (Wants.yes rfl rfl rfl) rfl (Gets.isFalse (Gets.neq rfl rfl rfl) (fun h => h rfl)) ?_
              iterate 5 refine gx ?_
              by_cases k3 : x.k = 3
              · refine TL.gets (Wants.yes rfl rfl rfl) rfl (Gets.isTrue (Gets.eql rfl rfl rfl) k3) ?_
                iterate 4 refine gx ?_
                refine TL.call0 (Wants.yes rfl rfl rfl) rfl enters20 rfl rfl (v := .bool false) (fun w hs => expect_f gr Ad mb cd k1 co po 9 x.A x.m x.c hco w (hs.has (⟨gr, 63, [Value.slice Ad mb cd, Value.int .i64 (k1 : Int), Value.int .i64 co, Value.int .i64 po], 4⟩) (by simp))) ?_
                iterate 4 refine gx ?_
                refine TC.pr [7, 8, 9, 40, 41, 42, 89] ?_
                refine TC.no rfl ?_
                iterate 4 refine gx ?_
                refine TL.gets (Wants.none rfl) rfl (Gets.add rfl rfl rfl (r := ((i : Int) + 1)) (w64 (by omega) (by omega))) ?_
                iterate 2 refine gx ?_
                exact TE.back (i + 1) (by omega) (by omega) (Sub.cons (i := 7) rfl (Sub.cons (i := 8) rfl (Sub.int (i := 9) rfl (by first | omega | rfl) (Sub.slice (i := 40) rfl (by first | rfl | (congr 2; omega)) (by first | omega | (dsimp only; omega) | rfl) (by first | omega | (dsimp only; omega) | rfl) (Sub.int (i := 41) rfl (by first | omega | rfl) (Sub.int (i := 42) rfl (by first | omega | rfl) (Sub.nil))))))) (fun w h => h.drop (by assumption))
              · refine TL.gets (Wants.yes rfl rfl rfl) rfl (Gets.isFalse (Gets.eql rfl rfl rfl) k3) ?_
                iterate 9 refine gx ?_
                refine TC.pr [7, 8, 9, 40, 41, 42, 89] ?_
                refine TC.no rfl ?_
                iterate 4 refine gx ?_
                refine TL.gets (Wants.none rfl) rfl (Gets.add rfl rfl rfl (r := ((i : Int) + 1)) (w64 (by omega) (by omega))) ?_
                iterate 2 refine gx ?_
                exact TE.back (i + 1) (by omega) (by omega) (Sub.cons (i := 7) rfl (Sub.cons (i := 8) rfl (Sub.int (i := 9) rfl (by first | omega | rfl) (Sub.slice (i := 40) rfl (by first | rfl | (congr 2; omega)) (by first | omega | (dsimp only; omega) | rfl) (by first | omega | (dsimp only; omega) | rfl) (Sub.int (i := 41) rfl (by first | omega | rfl) (Sub.int (i := 42) rfl (by first | omega | rfl) (Sub.nil))))))) (fun w h => h.drop (by assumption))
            · refine TL.gets (Wants.yes rfl rfl rfl) rfl (Gets.isFalse (Gets.eql rfl rfl rfl) k2) ?_
              iterate 12 refine gx ?_
              by_cases k3 : x.k = 3
              · refine TL.gets (Wants.yes rfl rfl rfl) rfl (Gets.isTrue (Gets.eql rfl rfl rfl) k3) ?_
                iterate 4 refine gx ?_
                refine TL.call0 (Wants.yes rfl rfl rfl) rfl enters20 rfl rfl (v := .bool false) (fun w hs => expect_f gr Ad mb cd k1 co po 9 x.A x.m x.c hco w (hs.has (⟨gr, 63, [Value.slice Ad mb cd, Value.int .i64 (k1 : Int), Value.int .i64 co, Value.int .i64 po], 4⟩) (by simp))) ?_
                iterate 4 refine gx ?_
                refine TC.pr [7, 8, 9, 40, 41, 42, 89] ?_
                refine TC.no rfl ?_
                iterate 4 refine gx ?_
                refine TL.gets (Wants.none rfl) rfl (Gets.add rfl rfl rfl (r := ((i : Int) + 1)) (w64 (by omega) (by omega))) ?_
                iterate 2 refine gx ?_
                exact TE.back (i + 1) (by omega) (by omega) (Sub.cons (i := 7) rfl (Sub.cons (i := 8) rfl (Sub.int (i := 9) rfl (by first | omega | rfl) (Sub.slice (i := 40) rfl (by first | rfl | (congr 2; omega)) (by first | omega | (dsimp only; omega) | rfl) (by first | omega | (dsimp only; omega) | rfl) (Sub.int (i := 41) rfl (by first | omega | rfl) (Sub.int (i := 42) rfl (by first | omega | rfl) (Sub.nil))))))) (fun w h => h.drop (by assumption))
              · refine TL.gets (Wants.yes rfl rfl rfl) rfl (Gets.isFalse (Gets.eql rfl rfl rfl) k3) ?_
                iterate 9 refine gx ?_
                refine TC.pr [7, 8, 9, 40, 41, 42, 89] ?_
                refine TC.no rfl ?_
                iterate 4 refine gx ?_
                refine TL.gets (Wants.none rfl) rfl (Gets.add rfl rfl rfl (r := ((i : Int) + 1)) (w64 (by omega) (by omega))) ?_
                iterate 2 refine gx ?_
                exact TE.back (i + 1) (by omega) (by omega) (Sub.cons (i := 7) rfl (Sub.cons (i := 8) rfl (Sub.int (i := 9) rfl (by first | omega | rfl) (Sub.slice (i := 40) rfl (by first | rfl | (congr 2; omega)) (by first | omega | (dsimp only; omega) | rfl) (by first | omega | (dsimp only; omega) | rfl) (Sub.int (i := 41) rfl (by first | omega | rfl) (Sub.int (i := 42) rfl (by first | omega | rfl) (Sub.nil))))))) (fun w h => h.drop (by assumption))
      · iterate 6 refine gx ?_
        refine TC.mix (by kernel_rfl) [1, 0, 0, 1, 1, 0, 0, 0, 0, 1, 0, 0, 0, 0, 1, 0, 0, 0, 0] rfl (by kernel_rfl) ?_
        refine TM.call0 (Wants.none rfl) rfl enters7 rfl rfl (v := .bool true) (fun w hs => alive_c w) ?_
        iterate 2 refine gx ?_
        refine TM.call0 (Wants.yes rfl rfl rfl) rfl enters15 rfl rfl (v := .agg ([Value.int .i64 co, Value.int .i64 po]).toArray) (fun w hs => fault_c gr Ad mb cd k1 co po w (hs.has (⟨gr, 63, [Value.slice Ad mb cd, Value.int .i64 (k1 : Int), Value.int .i64 co, Value.int .i64 po], 4⟩) (by simp))) ?_
        refine gx ?_
        refine TM.free (Wants.yes rfl rfl rfl) rfl (fun _ => Gets.isTrue (Gets.pairEq rfl Try.underlying41 (by decide) (by decide) rfl rfl Try.underlying39 Try.underlying3 sih41 geq41 rfl rfl) ⟨rfl, rfl⟩) ?_
        iterate 4 refine gx ?_
        refine TM.free (Wants.yes rfl rfl rfl) rfl (fun _ => Gets.isTrue (Gets.neq rfl rfl rfl) hco) ?_
        iterate 3 refine gx ?_
        refine TM.call0 (Wants.yes rfl rfl rfl) rfl enters14 rfl rfl (v := .int .i64 (k1 : Int)) (fun w hs => at_c gr Ad mb cd k1 co po w (hs.has (⟨gr, 63, [Value.slice Ad mb cd, Value.int .i64 (k1 : Int), Value.int .i64 co, Value.int .i64 po], 4⟩) (by simp))) ?_
        refine gx ?_
        refine TM.free (Wants.yes rfl rfl rfl) rfl (fun _ => Gets.isTrue (Gets.eql rfl rfl rfl) rfl) ?_
        iterate 5 refine gx ?_
        exact TE.ret1 rfl rfl (fun w hs => ⟨rfl, St.left (H := []) hs (Fresh.cons (by assumption) (Fresh.cons (by assumption) (Fresh.cons (by assumption) hFd)))⟩)
    · refine TL.call0 (Wants.yes rfl rfl rfl) rfl enters16 rfl rfl (v := .bool false) (fun w hs => (few_c Xl Al ml cl w (hsl.at_ hs (fun b hb => (ne_cons (by show g1 ≠ b; omega) ne_nil))) hmcl hcml (fun i x hx => (hNl i x hx).at_ hs (fun b hb => (ne_cons (by show g1 ≠ b; omega) ne_nil)))).mono fun e w' h => by rw [decide_eq_false (p := fewO ml Xl) c2] at h; exact h) ?_
      iterate 4 refine gx ?_
      refine TC.pr [0, 1, 5, 6, 19] ?_
      refine TC.yes rfl ?_
      iterate 2 refine gx ?_
      refine TL.call0 (Wants.none rfl) rfl enters7 rfl rfl (v := .bool true) (fun w hs => alive_c w) ?_
      iterate 5 refine gx ?_
      exact TE.ret1 rfl rfl (fun w hs => ⟨rfl, St.left (H := []) hs (Fresh.cons (by assumption) Fresh.nil)⟩)
end Go.Proofs.Ytdllgfkcakhoeaa
