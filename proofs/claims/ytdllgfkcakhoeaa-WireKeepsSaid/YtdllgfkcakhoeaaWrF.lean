/-
  WireInverse: the walk.
-/
import Derived.Test.YtdllgfkcakhoeaaWrE
import Derived.Test.YtdllgfkcakhoeaaAuto
namespace Go.Proofs.Ytdllgfkcakhoeaa
set_option linter.unusedVariables false
set_option linter.unusedSimpArgs false
open Go Go.RowKit

theorem uint_okI (g : Nat) (A : Option Addr) (m c k : Nat) (n : Int) (po : Int) (hn : 1 ≤ n ∧ n ≤ 8) (hkn : k + n.toNat ≤ m) (w : World) (hl : Ent.lies ⟨g, 63, rdC A m c k 0 po, rdN⟩ w) (hk : k ≤ m) (hmc : m ≤ c) (hcm : c ≤ 9223372036854775807) (B : List Int) (hX : SrcX w [g] A m .u8 B) (hBB : Bytes B) : Calls Try.prog 12 #[.pointer (some ⟨g, 0, none⟩), .int .i64 n] w fun e w' => e = .returned (.int .u64 (valB ((B.drop k).take n.toNat))) ∧ St w [⟨g, 63, rdC A m c (k + n.toNat) 0 po, rdN⟩] w' := by
  obtain ⟨y, rfl⟩ := Int.eq_ofNat_of_zero_le (show 0 ≤ n by omega)
  rw [Int.toNat_natCast] at hkn ⊢
  exact uint_ok g A m c k y po (by omega) hkn w hl hk hmc hcm B hX hBB
theorem rest_n (g : Nat) (A : Option Addr) (m c k : Nat) (co po : Int) (w : World) (hl : Ent.lies ⟨g, 63, rdC A m c k co po, rdN⟩ w) (hk : k ≤ m) (hmc : m ≤ c) (hcm : c ≤ 9223372036854775807) : Calls Try.prog 13 #[.pointer (some ⟨g, 0, none⟩)] w fun e w' => e = .returned (.int .i64 ((m - k : Nat) : Int)) ∧ St w [] w' := by
  rw [Int.ofNat_sub hk]; exact rest_c g A m c k co po w hl hk hmc hcm
theorem beV_bytes (x n : Int) : Bytes (beV x n) := fun y hy => by
  unfold beV beP at hy
  obtain ⟨i, _, rfl⟩ := List.mem_map.1 hy
  have h := Int.emod_nonneg (shrI .u64 x (8 * n - 8 * (i : Int) - 8)) (show (256 : Int) ≠ 0 by decide)
  have h2 := Int.emod_lt_of_pos (shrI .u64 x (8 * n - 8 * (i : Int) - 8)) (show (0 : Int) < 256 by decide)
  have h3 : IntKind.u8.wrap (shrI .u64 x (8 * n - 8 * (i : Int) - 8)) = shrI .u64 x (8 * n - 8 * (i : Int) - 8) % 256 := by simp [IntKind.wrap, IntKind.signed, IntKind.bits]
  rw [h3]; omega
theorem encF_bytes (Fs : List FV) : Bytes (encF Fs) := by
  induction Fs with
  | nil => intro x hx; cases hx
  | cons f l ih => exact (beV_bytes f.x f.n).app ih

set_option maxRecDepth 100000 in
set_option maxHeartbeats 1000000 in
theorem wireInverse_walk (Al : Option Addr) (ml cl : Nat) (Xl : List FV) (w : World) (hsl : SrcF w Al ml Xl) (hmcl : ml ≤ cl) (hcml : cl ≤ 9223372036854775807) (hNl : NumsF Xl) : Calls Try.prog 4 #[.slice Al ml cl] w fun e w' => e = .returned (.bool true) ∧ St w [] w' := by
  refine calls_from (args := [.slice Al ml cl]) Try.func4 rfl Try.ntmps4 (by simp) ?_
  refine TC.pr [0] ?_
  iterate 13 refine gx ?_
  refine TC.split rfl (fun hq0 => ?_) (fun hq0 => ?_)
  · iterate 2 refine gx ?_
    refine TL.call0 (Wants.none rfl) rfl enters7 rfl rfl (v := .bool true) (fun w hs => alive_c w) ?_
    iterate 5 refine gx ?_
    exact TE.ret1 rfl rfl (fun w hs => ⟨rfl, hs⟩)
  · iterate 5 refine gx ?_
    refine TL.call (ι := WF) (V := fun y => .tuple #[y.v1, y.v2, .bool (decide (fitAll Xl))]) (R := fun y => OwnS w.heap.size 36 2 y.v1 ml (flatF Xl) y.H1 ∧ Own w.heap.size 5 .u8 y.v2 y.W y.H2 ∧ (fitAll Xl → y.W = encF Xl) ∧ y.W.length ≤ 8 * ml) (H' := fun y => [] ++ (y.H2 ++ y.H1)) (Wants.none rfl) rfl enters8 rfl rfl (fun w hs => (fields_c Xl Al ml cl w (hsl.at_ hs (fun b hb => ne_nil)) hmcl (by omega)).mono fun e w' ⟨v1, H1, v2, W, H2, he, h1, h2, h3, h4, hw⟩ => ⟨⟨0, v1, H1, v2, W, H2⟩, he, ⟨h1.mono hs.size, own_mono h2 hs.size, h3, h4⟩, st_call hs hw (Fresh.app (w0 := w) h2.new h1.new)⟩) (fun y hR => ?_)
    obtain ⟨_, v1, H1, v2, W, H2⟩ := y
    obtain ⟨hv1, hv2, hW, hWl⟩ := hR
    dsimp only at hv1 hv2 hW hWl ⊢
    have hT : Fresh w (H2 ++ H1) := Fresh.app hv2.new hv1.new
    obtain ⟨Af, cf, rfl, hcf, hcf2⟩ := hv1.form
    obtain ⟨Aw, cw, rfl, hcw, hcw2⟩ := hv2.form
    iterate 6 refine gx ?_
    by_cases c3 : fitAll Xl
    · refine TL.gets (Wants.none rfl) rfl (Gets.isTrue (Gets.assign rfl rfl) c3) ?_
      iterate 2 refine gx ?_
      refine TC.pr [2, 3, 5] ?_
      iterate 3 refine gx ?_
      refine TL.call (ι := Value × List Ent) (V := fun y => .tuple #[y.1, .bool true]) (R := fun y => Own w.heap.size 5 .u8 y.1 ([] ++ encF Xl) y.2) (H' := fun y => [] ++ (H2 ++ H1) ++ y.2) (Wants.none rfl) rfl enters9 rfl rfl (fun w hs => (wapp_yes [] Xl none Af 0 0 ml cf w ⟨rfl, .inl rfl⟩ (hv1.srcF (fun e he => hs.has e (by simp [he]))) hNl (by omega) (by omega) (by omega) (by omega) (by omega) (by omega) c3).mono fun e w' ⟨v, He, he, ho, hw⟩ => ⟨(v, He), he, own_mono ho hs.size, st_call hs hw ho.new⟩) (fun y hR => ?_)
      obtain ⟨v4, H4⟩ := y
      dsimp only at hR ⊢
      rw [List.nil_append] at hR
      obtain ⟨A4, c4, rfl, hc4, hc42⟩ := hR.form
      obtain ⟨ne, hne⟩ : ∃ ne : Nat, (encF Xl).length = ne := ⟨_, rfl⟩
      rw [hne] at hR hc4 ⊢
      have hEl := encF_le c3
      have hXl := hsl.1
      refine TL.heap (H' := [] ++ ((H2 ++ H1) ++ H4)) (fun w h => by rw [← List.append_assoc]; exact h) ?_
      have hFtH4 := Fresh.app hT hR.new
      iterate 7 refine gx ?_
      refine TC.pr [2, 3, 5, 6, 7] ?_
      iterate 3 refine gx ?_
      refine TL.call (ι := Nat × (Option Addr × Nat) × List Ent) (V := fun y => .pointer (some ⟨y.1, 0, none⟩)) (R := fun y => (Own w.heap.size 5 .u8 (.slice y.2.1.1 ne y.2.1.2) (encF Xl) y.2.2) ∧ w.heap.size ≤ y.1) (H' := fun y => [] ++ ((H2 ++ H1) ++ H4) ++ (⟨y.1, 63, rdC y.2.1.1 ne y.2.1.2 0 0 0, rdN⟩ :: y.2.2)) (Wants.none rfl) rfl enters11 rfl rfl (fun w hs => (new_c (encF Xl) A4 ne c4 w (hR.srcOf (fun e he => hs.has e (by simp [he]))) (by omega) (by omega)).mono fun e w' ⟨g, A', c', He, he, ho, hg, hw⟩ => ⟨(g, (A', c'), He), he, ⟨own_mono ho hs.size, Nat.le_trans hs.size hg⟩, st_call hs hw (Fresh.cons (w0 := w) hg ho.new)⟩) (fun y hR => ?_)
      obtain ⟨gr, ⟨Ad, cd⟩, Hd⟩ := y
      obtain ⟨hod, hgr⟩ := hR
      dsimp only at hod hgr ⊢
      have hFd : Fresh w Hd := hod.new
      obtain ⟨hcd, hcd2⟩ : ne ≤ cd ∧ cd ≤ 9223372036854775807 := by obtain ⟨_, _, h1, h2, h3⟩ := hod.form; cases h1; exact ⟨by omega, h3⟩
      refine TL.heap (H' := ([(⟨gr, 63, [Value.slice Ad ne cd, Value.int .i64 0, Value.int .i64 0, Value.int .i64 0], 4⟩ : Ent)] ++ ([] ++ ((H2 ++ H1) ++ H4))) ++ Hd) (fun w h => h.perm List.perm_middle) ?_
      refine TL.heap (H' := ([⟨gr, 63, [Value.slice Ad ne cd, Value.int .i64 0, Value.int .i64 0, Value.int .i64 0], 4⟩] ++ ((H2 ++ H1) ++ H4)) ++ Hd) (fun w h => h) ?_
      refine TL.heap (H' := [⟨gr, 63, [Value.slice Ad ne cd, Value.int .i64 0, Value.int .i64 0, Value.int .i64 0], 4⟩] ++ (((H2 ++ H1) ++ H4) ++ Hd)) (fun w h => by rw [← List.append_assoc]; exact h) ?_
      have hFtHd := Fresh.app hFtH4 hFd
      iterate 7 refine gx ?_
      refine TL.gets (Wants.none rfl) rfl (Gets.ptrNil rfl Try.underlying32 rfl rfl) ?_
      iterate 3 refine gx ?_
      refine TL.gets (Wants.yes rfl rfl rfl) rfl (Gets.boolNe rfl Try.underlying4 rfl rfl) ?_
      iterate 3 refine gx ?_
      refine TC.pr [2, 3, 5, 6, 8, 34] ?_
      refine TC.no rfl ?_
      iterate 9 refine gx ?_
      refine TC.no rfl ?_
      iterate 10 refine gx ?_
      refine TC.pr [2, 6, 8, 38, 39, 40] ?_
      refine gx ?_
      refine TC.loop (ι := Nat) (fun i => [(6, .slice A4 ne c4), (8, .pointer (some ⟨gr, 0, none⟩)), (38, .slice Af ml cf), (39, .int .i64 (ml : Int)), (40, .int .i64 (i : Int))]) (fun i => [⟨gr, 63, [Value.slice Ad ne cd, Value.int .i64 ((encF (Xl.take (i))).length : Int), Value.int .i64 0, Value.int .i64 0], 4⟩] ++ (((H2 ++ H1) ++ H4) ++ Hd)) (fun i => ml - i) (fun i => i ≤ ml) 0 (Nat.zero_le _) (Sub.slice (i := 6) rfl rfl (by first | omega | (dsimp only; omega) | rfl) (by first | omega | (dsimp only; omega) | rfl) (Sub.cons (i := 8) rfl (Sub.slice (i := 38) rfl rfl (by first | omega | (dsimp only; omega) | rfl) (by first | omega | (dsimp only; omega) | rfl) (Sub.int (i := 39) rfl (by first | omega | rfl) (Sub.int (i := 40) rfl (by first | omega | rfl) (Sub.nil)))))) (fun w h => by rw [List.take_zero]; exact h) (fun i hC0 => ?_)
      iterate 6 refine gx ?_
      refine TC.split rfl (fun hq3 => ?_) (fun hq3 => ?_)
      · obtain ⟨gf, capf, hvf, hHf, hNf, hcf3, hmf⟩ := hv1.2.resolve_left (fun h => by have := h.2.1; omega)
        injection hvf with e1 e2 e3
        subst e1
        subst hHf
        obtain ⟨x, hx⟩ := hsl.get (i := i) (by omega)
        have hnx := hNl i x hx
        unfold NumF at hnx
        have hfx := c3 x (List.mem_of_getElem? hx)
        have hnn : 1 ≤ x.n ∧ x.n ≤ 8 := by unfold fitV at hfx; exact ⟨hfx.1, hfx.2.1⟩
        have hrm := encF_room hx
        rw [hne] at hrm
        have hval : valB (((encF Xl).drop (encF (Xl.take (i))).length).take (x.n).toNat) = x.x := by rw [encF_at hx]; exact val_beV hnx.1 hfx
        have hEn : (encF (Xl.take (i + 1))).length = (encF (Xl.take (i))).length + (x.n).toNat := by rw [encF_take hx, List.length_append, beV_len]
        iterate 6 refine gx ?_
        refine TL.gets (Wants.none rfl) rfl (Gets.idxSlice rfl Try.underlying25 size36 rfl rfl (i := i) (by omega) (by omega) (off' := (2 * i)) (by omega)) ?_
        refine TL.gets (Wants.none rfl) rfl (Gets.loadN rfl agg36 size36 rfl rfl (fun w hs j u hu => by rw [show 2 * i + j = 2 * i + j from rfl]; exact (hs.has (⟨gf, 36, flatF Xl, capf * 2⟩ : Ent) (by simp)).cell (flatF_get hx hu))) ?_
        refine TL.al (fun g1 hg1 => ?_)
        refine TL.storeW (Wants.none rfl) rfl rfl size36 rfl (vs := [Value.int .u64 x.x, Value.int .i64 x.n]) rfl (by simp []) (by simp [Value.oneCell']) (i := 0) (ent := ⟨g1, 36, [Value.int .u64 0, Value.int .i64 0], 2⟩) rfl rfl (by simp []) (H' := [⟨g1, 36, [Value.int .u64 x.x, Value.int .i64 x.n], 2⟩, ⟨gr, 63, [Value.slice Ad ne cd, Value.int .i64 ((encF (Xl.take (i))).length : Int), Value.int .i64 0, Value.int .i64 0], 4⟩] ++ (((H2 ++ [(⟨gf, 36, flatF Xl, capf * 2⟩ : Ent)]) ++ H4) ++ Hd)) rfl ?_
        iterate 2 refine gx ?_
        refine TC.pr [6, 8, 10, 38, 39, 40] ?_
        refine gx ?_
        refine TC.heap (H' := [⟨g1, 36, [Value.int .u64 x.x, Value.int .i64 x.n], 2⟩] ++ ([⟨gr, 63, [Value.slice Ad ne cd, Value.int .i64 ((encF (Xl.take (i))).length : Int), Value.int .i64 0, Value.int .i64 0], 4⟩] ++ (((H2 ++ [(⟨gf, 36, flatF Xl, capf * 2⟩ : Ent)]) ++ H4) ++ Hd))) (fun w h => h) ?_
        refine TC.mixB (HB := [Ent.mk g1 36 ([Value.int .u64 x.x, Value.int .i64 x.n]) 2]) (H := [Ent.mk gr 63 ([Value.slice Ad ne cd, Value.int .i64 ((encF (Xl.take (i))).length : Int), Value.int .i64 0, Value.int .i64 0]) 4] ++ (((H2 ++ [Ent.mk gf 36 (flatF Xl) (capf * 2)]) ++ H4) ++ Hd)) (by kernel_rfl) [0, 0, 0, 3, 0, 0, 0] [0, 1, 2, 4, 5, 3, 6] (by kernel_rfl) ?_
        refine TP.free (Wants.none rfl) rfl (fun _ => Gets.move rfl rfl) ?_
        refine TP.free (Wants.none rfl) rfl (fun _ => Gets.fieldAddr rfl Try.underlying36 rfl size3 rfl (off' := 1) (by first | rfl | omega)) ?_
        refine TP.stay (Wants.none rfl) rfl (fun H' => Gets.load1 rfl agg3 rfl (At.ent (i := 0) (ent := ⟨g1, 36, [Value.int .u64 x.x, Value.int .i64 x.n], 2⟩) (off := 1) rfl rfl (by exact rfl))) ?_
        refine TP.free (Wants.none rfl) rfl (fun _ => Gets.fieldAddr rfl Try.underlying36 rfl size34 rfl (off' := 0) (by first | rfl | omega)) ?_
        refine TP.stay (Wants.none rfl) rfl (fun H' => Gets.load1 rfl agg34 rfl (At.ent (i := 0) (ent := ⟨g1, 36, [Value.int .u64 x.x, Value.int .i64 x.n], 2⟩) (off := 0) rfl rfl (by exact rfl))) ?_
        refine TP.call (ι := Unit) (V := fun _ => .int .u64 (valB (((encF Xl).drop (((encF (Xl.take (i))).length))).take (x.n).toNat))) (R := fun _ => True) (H' := fun _ => [⟨gr, 63, [Value.slice Ad ne cd, Value.int .i64 (((((encF (Xl.take (i))).length) + (x.n).toNat) : Nat) : Int), Value.int .i64 0, Value.int .i64 0], 4⟩] ++ (((H2 ++ [(⟨gf, 36, flatF Xl, capf * 2⟩ : Ent)]) ++ H4) ++ Hd)) (Wants.none rfl) rfl enters12 rfl rfl (fun w hs => (uint_okI gr Ad ne cd (((encF (Xl.take (i))).length)) x.n 0 (by omega) (by omega) w (hs.has (⟨gr, 63, [Value.slice Ad ne cd, Value.int .i64 ((encF (Xl.take (i))).length : Int), Value.int .i64 0, Value.int .i64 0], 4⟩) (by simp)) (by omega) (by omega) (by omega) (encF Xl) (hod.srcX (fun q9 hq9 => (show St _ (([⟨g1, 36, [Value.int .u64 x.x, Value.int .i64 x.n], 2⟩, ⟨gr, 63, [Value.slice Ad ne cd, Value.int .i64 ((encF (Xl.take (i))).length : Int), Value.int .i64 0, Value.int .i64 0], 4⟩] : List Ent) ++ ((((H2 ++ [(⟨gf, 36, flatF Xl, capf * 2⟩ : Ent)]) ++ H4) ++ Hd))) _ from hs).has q9 (List.mem_append_right _ (by simp [hq9]))) (fun q9 hq9 z9 hz9 => by rw [List.mem_singleton.1 hz9]; exact (show St _ (([⟨g1, 36, [Value.int .u64 x.x, Value.int .i64 x.n], 2⟩, ⟨gr, 63, [Value.slice Ad ne cd, Value.int .i64 ((encF (Xl.take (i))).length : Int), Value.int .i64 0, Value.int .i64 0], 4⟩] : List Ent) ++ ((((H2 ++ [(⟨gf, 36, flatF Xl, capf * 2⟩ : Ent)]) ++ H4) ++ Hd))) _ from hs).beside (d := ⟨gr, 63, [Value.slice Ad ne cd, Value.int .i64 ((encF (Xl.take (i))).length : Int), Value.int .i64 0, Value.int .i64 0], 4⟩) (by simp) q9 (by simp [hq9]))) (encF_bytes Xl)).mono fun e w' ⟨he, hw⟩ => ⟨(), he, trivial, St.turn (i := 1) (e := ⟨gr, 63, [Value.slice Ad ne cd, Value.int .i64 (((((encF (Xl.take (i))).length) + (x.n).toNat) : Nat) : Int), Value.int .i64 0, Value.int .i64 0], 4⟩) hs rfl rfl hw⟩) (fun _ _ => ?_)
        refine TP.free (Wants.none rfl) rfl (fun _ => Gets.isFalse (Gets.neq rfl rfl rfl) (fun h => h hval)) ?_
        refine TP.nil ?_
        refine TE.heap (H' := [⟨g1, 36, [Value.int .u64 x.x, Value.int .i64 x.n], 2⟩, ⟨gr, 63, [Value.slice Ad ne cd, Value.int .i64 (((((encF (Xl.take (i))).length) + (x.n).toNat) : Nat) : Int), Value.int .i64 0, Value.int .i64 0], 4⟩] ++ (((H2 ++ [(⟨gf, 36, flatF Xl, capf * 2⟩ : Ent)]) ++ H4) ++ Hd)) (fun w h => h) ?_
        refine gx ?_
        refine TC.pr [6, 8, 38, 39, 40, 50] ?_
        refine TC.no rfl ?_
        iterate 4 refine gx ?_
        refine TL.gets (Wants.none rfl) rfl (Gets.add rfl rfl rfl (r := ((i : Int) + 1)) (w64 (by omega) (by omega))) ?_
        iterate 2 refine gx ?_
        exact TE.back (i + 1) (by omega) (by omega) (Sub.slice (i := 6) rfl rfl (by first | omega | (dsimp only; omega) | rfl) (by first | omega | (dsimp only; omega) | rfl) (Sub.cons (i := 8) rfl (Sub.slice (i := 38) rfl (by first | rfl | (congr 2; omega)) (by first | omega | (dsimp only; omega) | rfl) (by first | omega | (dsimp only; omega) | rfl) (Sub.int (i := 39) rfl (by first | omega | rfl) (Sub.int (i := 40) rfl (by first | omega | rfl) (Sub.nil)))))) (fun w h => by rw [hEn]; exact h.drop (by assumption))
      · have hke : (encF (Xl.take (i))).length = ne := by rw [List.take_of_length_le (by omega)]; exact hne
        iterate 7 refine gx ?_
        refine TL.call0 (Wants.none rfl) rfl enters7 rfl rfl (v := .bool true) (fun w hs => alive_c w) ?_
        iterate 2 refine gx ?_
        refine TL.call0 (Wants.yes rfl rfl rfl) rfl enters13 rfl rfl (v := .int .i64 ((ne : Int) - ((encF (Xl.take (i))).length : Int))) (fun w hs => rest_c gr Ad ne cd (((encF (Xl.take (i))).length)) 0 0 w (hs.has (⟨gr, 63, [Value.slice Ad ne cd, Value.int .i64 ((encF (Xl.take (i))).length : Int), Value.int .i64 0, Value.int .i64 0], 4⟩) (by simp)) (by omega) (by omega) (by omega)) ?_
        refine TL.gets (Wants.yes rfl rfl rfl) rfl (Gets.isTrue (Gets.eql rfl rfl rfl) (by omega)) ?_
        iterate 3 refine gx ?_
        refine TL.call0 (Wants.yes rfl rfl rfl) rfl enters14 rfl rfl (v := .int .i64 ((encF (Xl.take (i))).length : Int)) (fun w hs => at_c gr Ad ne cd (((encF (Xl.take (i))).length)) 0 0 w (hs.has (⟨gr, 63, [Value.slice Ad ne cd, Value.int .i64 ((encF (Xl.take (i))).length : Int), Value.int .i64 0, Value.int .i64 0], 4⟩) (by simp))) ?_
        iterate 2 refine gx ?_
        refine TL.gets (Wants.yes rfl rfl rfl) rfl (Gets.isTrue (Gets.eql rfl rfl rfl) (by omega)) ?_
        iterate 3 refine gx ?_
        refine TL.call0 (Wants.yes rfl rfl rfl) rfl enters15 rfl rfl (v := .agg ([Value.int .i64 0, Value.int .i64 0]).toArray) (fun w hs => fault_c gr Ad ne cd (((encF (Xl.take (i))).length)) 0 0 w (hs.has (⟨gr, 63, [Value.slice Ad ne cd, Value.int .i64 ((encF (Xl.take (i))).length : Int), Value.int .i64 0, Value.int .i64 0], 4⟩) (by simp))) ?_
        refine TL.gets (Wants.yes rfl rfl rfl) rfl (Gets.build rfl (vs := []) rfl (fun w => by first | rfl | kernel_rfl) (v := .agg ([Value.int .i64 0, Value.int .i64 0]).toArray)) ?_
        refine TL.gets (Wants.yes rfl rfl rfl) rfl (Gets.isTrue (Gets.pairEq rfl Try.underlying41 (by decide) (by decide) rfl rfl Try.underlying39 Try.underlying3 sih41 geq41 rfl rfl) ⟨rfl, rfl⟩) ?_
        iterate 5 refine gx ?_
        exact TE.ret1 rfl rfl (fun w hs => ⟨rfl, St.left (H := []) hs (Fresh.cons (by assumption) hFtHd)⟩)
    · refine TL.gets (Wants.none rfl) rfl (Gets.isFalse (Gets.assign rfl rfl) c3) ?_
      iterate 2 refine gx ?_
      refine TC.pr [2, 3, 5] ?_
      iterate 3 refine gx ?_
      refine TL.call (ι := (Option Addr × Nat) × List Ent) (V := fun y => .tuple #[.slice y.1.1 0 y.1.2, .bool false]) (R := fun y => Fresh w y.2) (H' := fun y => [] ++ (H2 ++ H1) ++ y.2) (Wants.none rfl) rfl enters9 rfl rfl (fun w hs => (wapp_no [] Xl none Af 0 0 ml cf w ⟨rfl, .inl rfl⟩ (hv1.srcF (fun e he => hs.has e (by simp [he]))) hNl (by omega) (by omega) (by omega) (by omega) (by omega) (by omega) c3).mono fun e w' ⟨A', c', He, he, ho, hw⟩ => ⟨((A', c'), He), he, fun e he => Nat.le_trans hs.size (ho e he), st_call hs hw ho⟩) (fun y hR => ?_)
      obtain ⟨⟨A4, c4⟩, H4⟩ := y
      dsimp only at hR ⊢
      refine TL.heap (H' := [] ++ ((H2 ++ H1) ++ H4)) (fun w h => by rw [← List.append_assoc]; exact h) ?_
      have hFtH4 := Fresh.app hT hR
      iterate 7 refine gx ?_
      refine TC.pr [2, 3, 5, 6, 7] ?_
      iterate 3 refine gx ?_
      refine TL.call (ι := Nat × (Option Addr × Nat) × List Ent) (V := fun y => .pointer (some ⟨y.1, 0, none⟩)) (R := fun y => (Own w.heap.size 5 .u8 (.slice y.2.1.1 0 y.2.1.2) [] y.2.2) ∧ w.heap.size ≤ y.1) (H' := fun y => [] ++ ((H2 ++ H1) ++ H4) ++ (⟨y.1, 63, rdC y.2.1.1 0 y.2.1.2 0 0 0, rdN⟩ :: y.2.2)) (Wants.none rfl) rfl enters11 rfl rfl (fun w hs => (new_c [] A4 0 c4 w ⟨rfl, .inl rfl⟩ (by omega) (by omega)).mono fun e w' ⟨g, A', c', He, he, ho, hg, hw⟩ => ⟨(g, (A', c'), He), he, ⟨own_mono ho hs.size, Nat.le_trans hs.size hg⟩, st_call hs hw (Fresh.cons (w0 := w) hg ho.new)⟩) (fun y hR => ?_)
      obtain ⟨gr, ⟨Ad, cd⟩, Hd⟩ := y
      obtain ⟨hod, hgr⟩ := hR
      dsimp only at hod hgr ⊢
      have hFd : Fresh w Hd := hod.new
      obtain ⟨hcd, hcd2⟩ : 0 ≤ cd ∧ cd ≤ 9223372036854775807 := by obtain ⟨_, _, h1, h2, h3⟩ := hod.form; cases h1; exact ⟨by omega, h3⟩
      refine TL.heap (H' := ([(⟨gr, 63, [Value.slice Ad 0 cd, Value.int .i64 0, Value.int .i64 0, Value.int .i64 0], 4⟩ : Ent)] ++ ([] ++ ((H2 ++ H1) ++ H4))) ++ Hd) (fun w h => h.perm List.perm_middle) ?_
      refine TL.heap (H' := ([⟨gr, 63, [Value.slice Ad 0 cd, Value.int .i64 0, Value.int .i64 0, Value.int .i64 0], 4⟩] ++ ((H2 ++ H1) ++ H4)) ++ Hd) (fun w h => h) ?_
      refine TL.heap (H' := [⟨gr, 63, [Value.slice Ad 0 cd, Value.int .i64 0, Value.int .i64 0, Value.int .i64 0], 4⟩] ++ (((H2 ++ H1) ++ H4) ++ Hd)) (fun w h => by rw [← List.append_assoc]; exact h) ?_
      have hFtHd := Fresh.app hFtH4 hFd
      iterate 7 refine gx ?_
      refine TL.gets (Wants.none rfl) rfl (Gets.ptrNil rfl Try.underlying32 rfl rfl) ?_
      iterate 3 refine gx ?_
      refine TL.gets (Wants.yes rfl rfl rfl) rfl (Gets.boolNe rfl Try.underlying4 rfl rfl) ?_
      iterate 3 refine gx ?_
      refine TC.pr [2, 3, 5, 6, 8, 34] ?_
      refine TC.no rfl ?_
      iterate 9 refine gx ?_
      refine TC.yes rfl ?_
      iterate 2 refine gx ?_
      refine TL.call0 (Wants.none rfl) rfl enters7 rfl rfl (v := .bool true) (fun w hs => alive_c w) ?_
      iterate 5 refine gx ?_
      exact TE.ret1 rfl rfl (fun w hs => ⟨rfl, St.left (H := []) hs (Fresh.cons (by assumption) hFtHd)⟩)
end Go.Proofs.Ytdllgfkcakhoeaa
