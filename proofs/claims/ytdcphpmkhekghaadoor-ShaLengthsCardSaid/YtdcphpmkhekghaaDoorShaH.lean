/-
  The chapter's examples.
-/
import Derived.Test.YtdcphpmkhekghaaDoorShaG
namespace Go.Proofs.YtdcphpmkhekghaaDoor
set_option linter.unusedVariables false
set_option linter.unusedSimpArgs false
open Go Go.RowKit
theorem enters10 : Enters Tryd.prog 10 := ⟨_, Tryd.func10, by kernel_rfl, by kernel_rfl⟩
theorem enters18 : Enters Tryd.prog 18 := ⟨_, Tryd.func18, by kernel_rfl, by kernel_rfl⟩
theorem enters21 : Enters Tryd.prog 21 := ⟨_, Tryd.func21, by kernel_rfl, by kernel_rfl⟩
theorem zero22 : (Tryd.prog.info? 22).bind (·.zero) = some (.slice none 0 0) := by kernel_rfl

theorem parts_one {w : World} {gp t tot m c : Nat} {A : Option Addr} {P : List Int} (hl : Ent.lies ⟨gp, t, [Value.slice A m c], tot⟩ w) (h : Src w A m .u8 P) (hmc : m ≤ c) : PartsO w (some ⟨gp, 0, none⟩) 1 [P] :=
  ⟨rfl, .inr ⟨gp, 0, rfl, hl.lt, fun i hi => by
    obtain rfl : i = 0 := by omega
    exact ⟨A, m, c, hl.cell (o := 0) rfl, h, hmc⟩⟩⟩
theorem parts_two {w : World} {gp t tot m c m' c' : Nat} {A A' : Option Addr} {P P' : List Int} (hl : Ent.lies ⟨gp, t, [Value.slice A m c, Value.slice A' m' c'], tot⟩ w) (h : Src w A m .u8 P) (hmc : m ≤ c) (h' : Src w A' m' .u8 P') (hmc' : m' ≤ c') : PartsO w (some ⟨gp, 0, none⟩) 2 [P, P'] :=
  ⟨rfl, .inr ⟨gp, 0, rfl, hl.lt, fun i hi => by
    rcases (show i = 0 ∨ i = 1 by omega) with rfl | rfl
    · exact ⟨A, m, c, hl.cell (o := 0) rfl, h, hmc⟩
    · exact ⟨A', m', c', hl.cell (o := 1) rfl, h', hmc'⟩⟩⟩

theorem alive_nil_p : (⟨#[101, 51, 98, 48, 99, 52, 52, 50]⟩ : ByteArray) = bs [101, 51, 98, 48, 99, 52, 52, 50] := by kernel_rfl
theorem alive_nil_c (w : World) : Calls Tryd.prog 21 #[.string (bs (fmtF (shaM []) 32)), .string ⟨#[101, 51, 98, 48, 99, 52, 52, 50]⟩] w fun e w' => e = .returned (.bool true) ∧ St w [] w' :=
  have h := bs_prefix (p := ⟨#[101, 51, 98, 48, 99, 52, 52, 50]⟩) alive_nil_p (show (fmtF (shaM []) 32).take ([101, 51, 98, 48, 99, 52, 52, 50] : List Int).length = [101, 51, 98, 48, 99, 52, 52, 50] from alive_nil)
  hasPrefix_c (bs (fmtF (shaM []) 32)) ⟨#[101, 51, 98, 48, 99, 52, 52, 50]⟩ w h.1 h.2

theorem alive_abc_p : (⟨#[98, 97, 55, 56, 49, 54, 98, 102]⟩ : ByteArray) = bs [98, 97, 55, 56, 49, 54, 98, 102] := by kernel_rfl
theorem alive_abc_c (w : World) : Calls Tryd.prog 21 #[.string (bs (fmtF (shaM [97, 98, 99]) 32)), .string ⟨#[98, 97, 55, 56, 49, 54, 98, 102]⟩] w fun e w' => e = .returned (.bool true) ∧ St w [] w' :=
  have h := bs_prefix (p := ⟨#[98, 97, 55, 56, 49, 54, 98, 102]⟩) alive_abc_p (show (fmtF (shaM [97, 98, 99]) 32).take ([98, 97, 55, 56, 49, 54, 98, 102] : List Int).length = [98, 97, 55, 56, 49, 54, 98, 102] from alive_abc)
  hasPrefix_c (bs (fmtF (shaM [97, 98, 99]) 32)) ⟨#[98, 97, 55, 56, 49, 54, 98, 102]⟩ w h.1 h.2

set_option maxRecDepth 100000 in
set_option maxHeartbeats 400000 in
theorem alive_c (w : World) (h1 : 1 < w.heap.size) (hIV : RowI w 0 0 8 .u32 IV) (hK : RowI w 1 0 64 .u32 KT) : Calls Tryd.prog 9 #[] w fun e w' => e = .returned (.bool true) ∧ St w [] w' := by
  refine calls_from (args := []) Tryd.func9 rfl Tryd.ntmps9 (by simp) ?_
  refine TC.sub (Sub.nil) ?_
  refine TC.seq ?_
  refine TC.regionL ?_
  refine TL.gets (Wants.none rfl) rfl (Gets.assign rfl rfl) ?_
  refine TL.nil ?_
  refine TE.then ?_
  refine TC.seq ?_
  refine TC.regionL ?_
  refine TL.call0 (Wants.none rfl) rfl enters10 rfl rfl (v := .agg ((shaM ([])).map (Value.int .u8)).toArray) (fun w hs => of_c [] none 0 0 w ⟨rfl, .inl rfl⟩ (Nat.le_refl _) (by omega) (by simp) (Nat.lt_of_lt_of_le h1 hs.size) (hIV.keepH hs (by omega) ne_nil) (hK.keepH hs h1 ne_nil)) ?_
  refine TL.call0 (Wants.none rfl) rfl enters18 rfl rfl (v := .string (bs (fmtF (shaM ([])) 32))) (fun w hs => format_c (shaM ([])) w (shaM_len ([])) (shaM_bytes ([]))) ?_
  refine TL.call0 (Wants.none rfl) rfl enters21 rfl rfl (v := .bool true) (fun w hs => alive_nil_c w) ?_
  refine TL.gets (Wants.none rfl) rfl (Gets.move rfl rfl) ?_
  refine TL.buildSlice (Wants.yes rfl rfl rfl) rfl rfl Tryd.underlying22 size5 zero5 rfl (by decide) (by decide) (cells := #[.int .u8 97, .int .u8 98, .int .u8 99]) (tot := 3) (by kernel_rfl) (cs := [.int .u8 97, .int .u8 98, .int .u8 99]) rfl rfl (fun g1 hg1 => ?_)
  refine TL.mark (Wants.yes rfl rfl rfl) rfl rfl Tryd.underlying22 Tryd.underlying5 rfl (i := 0) (ent := ⟨g1, 5, [Value.int .u8 97, Value.int .u8 98, Value.int .u8 99], 3⟩) rfl rfl (W := [97, 98, 99]) rfl (by omega) (fun w1 hw1 hrw hgw => ?_)
  have h1' : 1 < w1.heap.size := Nat.lt_of_lt_of_le h1 hw1.size
  have hIV' := hIV.keepH hw1 (by omega) ne_nil
  have hK' := hK.keepH hw1 h1 ne_nil
  refine TL.buildSlice (Wants.yes rfl rfl rfl) rfl rfl Tryd.underlying34 size22 zero22 rfl (by decide) (by decide) (cells := #[.slice (some ⟨g1, 0, none⟩) 3 3]) (tot := 1) (by kernel_rfl) (cs := [.slice (some ⟨g1, 0, none⟩) 3 3]) rfl rfl (fun g2 hg2 => ?_)
  refine TL.call0 (Wants.yes rfl rfl rfl) rfl enters10 rfl rfl (v := .agg ((shaM ([97, 98, 99])).map (Value.int .u8)).toArray) (fun w hs => of_c [[97, 98, 99]] (some ⟨g2, 0, none⟩) 1 1 w (parts_one (hs.has (⟨g2, 22, [Value.slice (some ⟨g1, 0, none⟩) 3 3], 1⟩) (by simp)) ⟨rfl, .inr ⟨g1, 0, rfl, Nat.lt_of_lt_of_le hgw hs.size, hrw.keepH hs hgw (ne_cons (by show g2 ≠ g1; omega) ne_nil)⟩⟩ (by omega)) (Nat.le_refl _) (by omega) (by simp) (Nat.lt_of_lt_of_le h1' hs.size) (hIV'.keepH hs (by omega) (ne_cons (by show g2 ≠ 0; omega) ne_nil)) (hK'.keepH hs h1' (ne_cons (by show g2 ≠ 1; omega) ne_nil))) ?_
  refine TL.call0 (Wants.yes rfl rfl rfl) rfl enters18 rfl rfl (v := .string (bs (fmtF (shaM ([97, 98, 99])) 32))) (fun w hs => format_c (shaM ([97, 98, 99])) w (shaM_len ([97, 98, 99])) (shaM_bytes ([97, 98, 99]))) ?_
  refine TL.call0 (Wants.yes rfl rfl rfl) rfl enters21 rfl rfl (v := .bool true) (fun w hs => alive_abc_c w) ?_
  refine TL.gets (Wants.none rfl) rfl (Gets.pickT rfl rfl rfl) ?_
  refine TL.gets (Wants.none rfl) rfl (Gets.assign rfl rfl) ?_
  refine TL.nil ?_
  refine TE.then ?_
  refine TC.ret ?_
  exact TE.ret1 rfl rfl (fun w hs => ⟨rfl, St.call' hw1 (hs.drop (by assumption))⟩)
end Go.Proofs.YtdcphpmkhekghaaDoor
