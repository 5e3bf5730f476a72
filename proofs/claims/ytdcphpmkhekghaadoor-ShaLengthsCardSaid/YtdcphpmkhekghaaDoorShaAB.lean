/-
  ShaDigests: the walk.
-/
import Derived.Test.YtdcphpmkhekghaaDoorShaAA
import Derived.Test.YtdcphpmkhekghaaDoorShaI
namespace Go.Proofs.YtdcphpmkhekghaaDoor
set_option linter.unusedVariables false
set_option linter.unusedSimpArgs false
open Go Go.RowKit
theorem enters11 : Enters Tryd.prog 11 := ⟨_, Tryd.func11, by kernel_rfl, by kernel_rfl⟩
set_option maxRecDepth 100000 in
set_option maxHeartbeats 1000000 in
theorem shaDigests_walk (w : World) (Pp : List Int) (Ap : Option Addr) (mp cp : Nat) (hsp : Src w Ap mp .u8 Pp) (hlp : mp ≤ cp) (hmp : cp ≤ 9223372036854775807) (h1 : 1 < w.heap.size) (hIV : RowI w 0 0 8 .u32 IV) (hK : RowI w 1 0 64 .u32 KT) : Calls Tryd.prog 3 #[.slice Ap mp cp] w fun e w' => e = .returned (.bool true) ∧ St w [] w' := by
  refine calls_from (args := [.slice Ap mp cp]) Tryd.func3 rfl Tryd.ntmps3 (by simp) ?_
  refine TC.sub (Sub.cons (i := 0) rfl (Sub.nil)) ?_
  refine TC.seq ?_
  refine TC.regionL ?_
  refine TL.gets (Wants.none rfl) rfl (Gets.assign rfl rfl) ?_
  refine TL.nil ?_
  refine TE.then ?_
  refine TC.seq ?_
  refine TC.seq ?_
  refine TC.regionL ?_
  refine TL.gets (Wants.none rfl) rfl (Gets.move rfl rfl) ?_
  refine TL.gets (Wants.none rfl) rfl (Gets.lenSlice rfl Tryd.underlying22 rfl) ?_
  refine TL.gets (Wants.none rfl) rfl (Gets.gtr rfl rfl rfl) ?_
  refine TL.nil ?_
  refine TE.then ?_
  refine TC.split rfl (fun hq0 => ?_) (fun hq0 => ?_)
  · refine TC.seq ?_
    refine TC.regionL ?_
    refine TL.call0 (Wants.none rfl) rfl enters9 rfl rfl (v := .bool true) (fun w hs => alive_c w (Nat.lt_of_lt_of_le h1 hs.size) (hIV.keepH hs (by omega) ne_nil) (hK.keepH hs h1 ne_nil)) ?_
    refine TL.gets (Wants.none rfl) rfl (Gets.assign rfl rfl) ?_
    refine TL.nil ?_
    refine TE.then ?_
    refine TC.ret ?_
    refine TE.thenR ?_
    exact TE.ret1 rfl rfl (fun w hs => ⟨rfl, hs⟩)
  · refine TC.skip ?_
    refine TE.then ?_
    refine TC.seq ?_
    refine TC.regionL ?_
    refine TL.call0 (Wants.none rfl) rfl enters9 rfl rfl (v := .bool true) (fun w hs => alive_c w (Nat.lt_of_lt_of_le h1 hs.size) (hIV.keepH hs (by omega) ne_nil) (hK.keepH hs h1 ne_nil)) ?_
    refine TL.gets (Wants.none rfl) rfl (Gets.move rfl rfl) ?_
    refine TL.gets (Wants.yes rfl rfl rfl) rfl (Gets.move rfl rfl) ?_
    refine TL.buildSlice (Wants.yes rfl rfl rfl) rfl rfl Tryd.underlying34 size22 zero22 rfl (by decide) (by decide) (cells := #[.slice Ap mp cp]) (tot := 1) (by kernel_rfl) (cs := [.slice Ap mp cp]) rfl rfl (fun g1 hg1 => ?_)
    refine TL.call0 (Wants.yes rfl rfl rfl) rfl enters10 rfl rfl (v := .agg ((shaM Pp).map (Value.int .u8)).toArray) (fun w hs => of_m [Pp] Pp (by simp) (some ⟨g1, 0, none⟩) 1 1 w (parts_one (hs.has (⟨g1, 22, [Value.slice Ap mp cp], 1⟩) (by simp)) (hsp.at_ hs (fun b hb => (ne_cons (by show g1 ≠ b; omega) ne_nil))) (by omega)) (Nat.le_refl _) (by omega) (by have lp := hsp.1; (try simp only [List.length_append]); omega) (Nat.lt_of_lt_of_le h1 hs.size) (hIV.keepH hs (by omega) (ne_cons (by show g1 ≠ 0; omega) ne_nil)) (hK.keepH hs h1 (ne_cons (by show g1 ≠ 1; omega) ne_nil))) ?_
    refine TL.gets (Wants.yes rfl rfl rfl) rfl (Gets.move rfl rfl) ?_
    refine TL.call0 (Wants.yes rfl rfl rfl) rfl enters11 rfl rfl (v := .agg ((shaM Pp).map (Value.int .u8)).toArray) (fun w hs => rof_c Pp Ap mp cp w (hsp.at_ hs (fun b hb => (ne_cons (by show g1 ≠ b; omega) ne_nil))) (by omega) (by omega)) ?_
    refine TL.gets (Wants.yes rfl rfl rfl) rfl (Gets.arrSame rfl Tryd.underlying24 Tryd.underlying5 size5 geq24 rfl rfl (shaM_len Pp)) ?_
    refine TL.gets (Wants.none rfl) rfl (Gets.pickT rfl rfl rfl) ?_
    refine TL.gets (Wants.none rfl) rfl (Gets.assign rfl rfl) ?_
    refine TL.nil ?_
    refine TE.then ?_
    refine TC.ret ?_
    exact TE.ret1 rfl rfl (fun w hs => ⟨rfl, (hs.drop (by assumption))⟩)
end Go.Proofs.YtdcphpmkhekghaaDoor
