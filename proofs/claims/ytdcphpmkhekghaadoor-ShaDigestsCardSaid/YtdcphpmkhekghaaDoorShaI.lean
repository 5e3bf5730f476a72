/-
  ShaClones: the walk.
-/
import Derived.Test.YtdcphpmkhekghaaDoorShaH
namespace Go.Proofs.YtdcphpmkhekghaaDoor
set_option linter.unusedVariables false
set_option linter.unusedSimpArgs false
open Go Go.RowKit
theorem enters9 : Enters Tryd.prog 9 := ⟨_, Tryd.func9, by kernel_rfl, by kernel_rfl⟩
theorem enters15 : Enters Tryd.prog 15 := ⟨_, Tryd.func15, by kernel_rfl, by kernel_rfl⟩
theorem enters16 : Enters Tryd.prog 16 := ⟨_, Tryd.func16, by kernel_rfl, by kernel_rfl⟩
theorem geq24 : Tryd.prog.eqGuardType Tryd.prog.depth 24 = false := by kernel_rfl

theorem Src.at_ {w0 w : World} {H : List Ent} {A : Option Addr} {m : Nat} {kd : IntKind} {B : List Int} (h : Src w0 A m kd B) (hs : St w0 H w) (hH : ∀ b, b < w0.heap.size → ∀ e ∈ H, e.g ≠ b) : Src w A m kd B := by
  obtain ⟨h1, h2⟩ := h
  refine ⟨h1, ?_⟩
  rcases h2 with h2 | ⟨b, off, hA, hb, hr⟩
  · exact .inl h2
  · exact .inr ⟨b, off, hA, Nat.lt_of_lt_of_le hb hs.size, hr.keepH hs hb (hH b hb)⟩
theorem Src.toN {w0 w : World} {H : List Ent} {A : Option Addr} {m g : Nat} {kd : IntKind} {B : List Int} (h : Src w0 A m kd B) (hs : St w0 H w) (hH : ∀ b, b < w0.heap.size → ∀ e ∈ H, e.g ≠ b) (hg : w0.heap.size ≤ g) : SrcN w g A m kd B := by
  obtain ⟨h1, h2⟩ := h
  refine ⟨h1, ?_⟩
  rcases h2 with h2 | ⟨b, off, hA, hb, hr⟩
  · exact .inl h2
  · exact .inr ⟨b, off, hA, Nat.lt_of_lt_of_le hb hs.size, by omega, hr.keepH hs hb (hH b hb)⟩
theorem partsN_one {w : World} {g gp t tot m c : Nat} {A : Option Addr} {P : List Int} (hl : Ent.lies ⟨gp, t, [Value.slice A m c], tot⟩ w) (hne : gp ≠ g) (h : SrcN w g A m .u8 P) (hmc : m ≤ c) : PartsN w g (some ⟨gp, 0, none⟩) 1 [P] :=
  ⟨rfl, .inr ⟨gp, 0, rfl, hl.lt, hne, fun i hi => by
    obtain rfl : i = 0 := by omega
    exact ⟨A, m, c, hl.cell (o := 0) rfl, h, hmc⟩⟩⟩

theorem new_m (w : World) (h0 : 0 < w.heap.size) (hIV : RowI w 0 0 8 .u32 IV) : Calls Tryd.prog 12 #[] w fun e w' => ∃ g, e = .returned (.pointer (some ⟨g, 0, none⟩)) ∧ w.heap.size ≤ g ∧ St w [⟨g, 53, IV.map (Value.int .u32) ++ ((List.replicate 64 0).map (Value.int .u8) ++ ([Value.int .i64 (([] : List Int).length : Int)])), 73⟩] w' := new_c w h0 hIV
theorem write_m (M st rs : List Int) (Ps : List (List Int)) (M' : List Int) (hM : M ++ Ps.flatten = M') (g : Nat) (A : Option Addr) (m c : Nat) (w : World) (hk : HashOK M st rs) (hl : Ent.lies ⟨g, 53, st.map (Value.int .u32) ++ (rs.map (Value.int .u8) ++ ([Value.int .i64 (M.length : Int)])), 73⟩ w) (hP : PartsN w g A m Ps) (hmc : m ≤ c) (hcm : c ≤ 9223372036854775807) (hn : M'.length ≤ 4611686018427387903) (hb1 : 1 < w.heap.size) (hIV : RowI w 0 0 8 .u32 IV) (hK : RowI w 1 0 64 .u32 KT) (hg1 : g ≠ 1) :
    Calls Tryd.prog 13 #[.pointer (some ⟨g, 0, none⟩), .slice A m c] w fun e w' => e = .returned (.int .i64 (Ps.flatten.length : Int)) ∧ ∃ st' rs', HashOK M' st' rs' ∧ St w [⟨g, 53, (st').map (Value.int .u32) ++ ((rs').map (Value.int .u8) ++ ([Value.int .i64 (M'.length : Int)])), 73⟩] w' := by
  subst hM
  exact write_c M st rs Ps g A m c w hk hk.len hk.rlen hl hP hmc hcm (by simpa using hn) hb1 hg1 hK
theorem of_m (Ps : List (List Int)) (M : List Int) (hM : Ps.flatten = M) (A : Option Addr) (m c : Nat) (w : World) (hP : PartsO w A m Ps) (hmc : m ≤ c) (hcm : c ≤ 9223372036854775807) (hn : M.length ≤ 4611686018427387000) (hb1 : 1 < w.heap.size) (hIV : RowI w 0 0 8 .u32 IV) (hK : RowI w 1 0 64 .u32 KT) :
    Calls Tryd.prog 10 #[.slice A m c] w fun e w' => e = .returned (.agg ((shaM M).map (Value.int .u8)).toArray) ∧ St w [] w' := by
  subst hM
  exact of_c Ps A m c w hP hmc hcm hn hb1 hIV hK
theorem clone_m (M st rs : List Int) (g : Nat) (w : World) (hk : HashOK M st rs) (hl : Ent.lies ⟨g, 53, st.map (Value.int .u32) ++ (rs.map (Value.int .u8) ++ ([Value.int .i64 (M.length : Int)])), 73⟩ w) : Calls Tryd.prog 16 #[.pointer (some ⟨g, 0, none⟩)] w fun e w' => ∃ g', e = .returned (.pointer (some ⟨g', 0, none⟩)) ∧ w.heap.size ≤ g' ∧ St w [⟨g', 53, st.map (Value.int .u32) ++ (rs.map (Value.int .u8) ++ ([Value.int .i64 (M.length : Int)])), 73⟩] w' := clone_c st rs M.length g w hk.len hk.rlen hl
theorem len_m (M st rs : List Int) (g : Nat) (w : World) (hk : HashOK M st rs) (hl : Ent.lies ⟨g, 53, st.map (Value.int .u32) ++ (rs.map (Value.int .u8) ++ ([Value.int .i64 (M.length : Int)])), 73⟩ w) : Calls Tryd.prog 15 #[.pointer (some ⟨g, 0, none⟩)] w fun e w' => e = .returned (.int .i64 (M.length : Int)) ∧ St w [] w' := len_c st rs M.length g w hk.len hk.rlen hl
theorem sum_m (M st rs : List Int) (g : Nat) (w : World) (hk : HashOK M st rs) (hl : Ent.lies ⟨g, 53, st.map (Value.int .u32) ++ (rs.map (Value.int .u8) ++ ([Value.int .i64 (M.length : Int)])), 73⟩ w) (hn : M.length ≤ 4611686018427387000) (hb1 : 1 < w.heap.size) (hIV : RowI w 0 0 8 .u32 IV) (hK : RowI w 1 0 64 .u32 KT) : Calls Tryd.prog 14 #[.pointer (some ⟨g, 0, none⟩)] w fun e w' => e = .returned (.agg ((shaM M).map (Value.int .u8)).toArray) ∧ St w [] w' := sum_c M st rs g w hk hk.len hk.rlen hl hn hb1 hK

set_option maxRecDepth 100000 in
set_option maxHeartbeats 1000000 in
theorem shaClones_walk (w : World) (Pa : List Int) (Aa : Option Addr) (ma ca : Nat) (hsa : Src w Aa ma .u8 Pa) (hla : ma ≤ ca) (hma : ca ≤ 9223372036854775807) (Pb : List Int) (Ab : Option Addr) (mb cb : Nat) (hsb : Src w Ab mb .u8 Pb) (hlb : mb ≤ cb) (hmb : cb ≤ 9223372036854775807) (Pc : List Int) (Ac : Option Addr) (mc cc : Nat) (hsc : Src w Ac mc .u8 Pc) (hlc : mc ≤ cc) (hmc : cc ≤ 9223372036854775807) (h1 : 1 < w.heap.size) (hIV : RowI w 0 0 8 .u32 IV) (hK : RowI w 1 0 64 .u32 KT) : Calls Tryd.prog 6 #[.slice Aa ma ca, .slice Ab mb cb, .slice Ac mc cc] w fun e w' => e = .returned (.bool true) ∧ St w [] w' := by
  refine calls_from (args := [.slice Aa ma ca, .slice Ab mb cb, .slice Ac mc cc]) Tryd.func6 rfl Tryd.ntmps6 (by simp) ?_
  refine TC.sub (Sub.cons (i := 0) rfl (Sub.cons (i := 1) rfl (Sub.cons (i := 2) rfl (Sub.nil)))) ?_
  refine TC.seq ?_
  refine TC.regionL ?_
  refine TL.gets (Wants.none rfl) rfl (Gets.assign rfl rfl) ?_
  refine TL.nil ?_
  refine TE.then ?_
  refine TC.seq ?_
  refine TC.seq ?_
  refine TC.regionL ?_
  refine TL.gets (Wants.none rfl) rfl (Gets.move rfl rfl) ?_
  refine TL.gets (Wants.none rfl) rfl (Gets.lenSlice rfl Tryd.underlying22 rfl) ?_
  by_cases ha : 200 < (ma : Int)
  · refine TL.gets (Wants.none rfl) rfl (Gets.isTrue (Gets.gtr rfl rfl rfl) ha) ?_
    refine TL.gets (Wants.none rfl) rfl (Gets.move rfl rfl) ?_
    refine TL.pass rfl rfl rfl rfl rfl ?_
    refine TL.pass rfl rfl rfl rfl rfl ?_
    refine TL.pass rfl rfl rfl rfl rfl ?_
    refine TL.gets (Wants.none rfl) rfl (Gets.pickT rfl rfl rfl) ?_
    refine TL.gets (Wants.none rfl) rfl (Gets.move rfl rfl) ?_
    refine TL.pass rfl rfl rfl rfl rfl ?_
    refine TL.pass rfl rfl rfl rfl rfl ?_
    refine TL.pass rfl rfl rfl rfl rfl ?_
    refine TL.gets (Wants.none rfl) rfl (Gets.pickT rfl rfl rfl) ?_
    refine TL.nil ?_
    refine TE.then ?_
    refine TC.sub (Sub.cons (i := 0) rfl (Sub.cons (i := 1) rfl (Sub.cons (i := 2) rfl (Sub.cons (i := 6) rfl (Sub.cons (i := 21) rfl (Sub.nil)))))) ?_
    refine TC.yes rfl ?_
    refine TC.seq ?_
    refine TC.regionL ?_
    refine TL.call0 (Wants.none rfl) rfl enters9 rfl rfl (v := .bool true) (fun w hs => alive_c w (Nat.lt_of_lt_of_le h1 hs.size) (hIV.keepH hs (by omega) ne_nil) (hK.keepH hs h1 ne_nil)) ?_
    refine TL.gets (Wants.none rfl) rfl (Gets.assign rfl rfl) ?_
    refine TL.nil ?_
    refine TE.then ?_
    refine TC.ret ?_
    refine TE.thenR ?_
    exact TE.ret1 rfl rfl (fun w hs => ⟨rfl, hs⟩)
  · refine TL.gets (Wants.none rfl) rfl (Gets.isFalse (Gets.gtr rfl rfl rfl) ha) ?_
    refine TL.gets (Wants.none rfl) rfl (Gets.move rfl rfl) ?_
    refine TL.gets (Wants.yes rfl rfl rfl) rfl (Gets.move rfl rfl) ?_
    refine TL.gets (Wants.yes rfl rfl rfl) rfl (Gets.lenSlice rfl Tryd.underlying22 rfl) ?_
    by_cases hb : 200 < (mb : Int)
    · refine TL.gets (Wants.yes rfl rfl rfl) rfl (Gets.isTrue (Gets.gtr rfl rfl rfl) hb) ?_
      refine TL.gets (Wants.none rfl) rfl (Gets.pickF rfl rfl rfl) ?_
      refine TL.gets (Wants.none rfl) rfl (Gets.move rfl rfl) ?_
      refine TL.pass rfl rfl rfl rfl rfl ?_
      refine TL.pass rfl rfl rfl rfl rfl ?_
      refine TL.pass rfl rfl rfl rfl rfl ?_
      refine TL.gets (Wants.none rfl) rfl (Gets.pickT rfl rfl rfl) ?_
      refine TL.nil ?_
      refine TE.then ?_
      refine TC.sub (Sub.cons (i := 0) rfl (Sub.cons (i := 1) rfl (Sub.cons (i := 2) rfl (Sub.cons (i := 6) rfl (Sub.cons (i := 21) rfl (Sub.nil)))))) ?_
      refine TC.yes rfl ?_
      refine TC.seq ?_
      refine TC.regionL ?_
      refine TL.call0 (Wants.none rfl) rfl enters9 rfl rfl (v := .bool true) (fun w hs => alive_c w (Nat.lt_of_lt_of_le h1 hs.size) (hIV.keepH hs (by omega) ne_nil) (hK.keepH hs h1 ne_nil)) ?_
      refine TL.gets (Wants.none rfl) rfl (Gets.assign rfl rfl) ?_
      refine TL.nil ?_
      refine TE.then ?_
      refine TC.ret ?_
      refine TE.thenR ?_
      exact TE.ret1 rfl rfl (fun w hs => ⟨rfl, hs⟩)
    · refine TL.gets (Wants.yes rfl rfl rfl) rfl (Gets.isFalse (Gets.gtr rfl rfl rfl) hb) ?_
      refine TL.gets (Wants.none rfl) rfl (Gets.pickF rfl rfl rfl) ?_
      refine TL.gets (Wants.none rfl) rfl (Gets.move rfl rfl) ?_
      refine TL.gets (Wants.yes rfl rfl rfl) rfl (Gets.move rfl rfl) ?_
      refine TL.gets (Wants.yes rfl rfl rfl) rfl (Gets.lenSlice rfl Tryd.underlying22 rfl) ?_
      by_cases hc : 200 < (mc : Int)
      · refine TL.gets (Wants.yes rfl rfl rfl) rfl (Gets.isTrue (Gets.gtr rfl rfl rfl) hc) ?_
        refine TL.gets (Wants.none rfl) rfl (Gets.pickF rfl rfl rfl) ?_
        refine TL.nil ?_
        refine TE.then ?_
        refine TC.sub (Sub.cons (i := 0) rfl (Sub.cons (i := 1) rfl (Sub.cons (i := 2) rfl (Sub.cons (i := 6) rfl (Sub.cons (i := 21) rfl (Sub.nil)))))) ?_
        refine TC.yes rfl ?_
        refine TC.seq ?_
        refine TC.regionL ?_
        refine TL.call0 (Wants.none rfl) rfl enters9 rfl rfl (v := .bool true) (fun w hs => alive_c w (Nat.lt_of_lt_of_le h1 hs.size) (hIV.keepH hs (by omega) ne_nil) (hK.keepH hs h1 ne_nil)) ?_
        refine TL.gets (Wants.none rfl) rfl (Gets.assign rfl rfl) ?_
        refine TL.nil ?_
        refine TE.then ?_
        refine TC.ret ?_
        refine TE.thenR ?_
        exact TE.ret1 rfl rfl (fun w hs => ⟨rfl, hs⟩)
      · refine TL.gets (Wants.yes rfl rfl rfl) rfl (Gets.isFalse (Gets.gtr rfl rfl rfl) hc) ?_
        refine TL.gets (Wants.none rfl) rfl (Gets.pickF rfl rfl rfl) ?_
        refine TL.nil ?_
        refine TE.then ?_
        refine TC.sub (Sub.cons (i := 0) rfl (Sub.cons (i := 1) rfl (Sub.cons (i := 2) rfl (Sub.cons (i := 6) rfl (Sub.cons (i := 21) rfl (Sub.nil)))))) ?_
        refine TC.no rfl ?_
        refine TC.skip ?_
        refine TE.then ?_
        refine TC.seq ?_
        refine TC.regionL ?_
        refine TL.call (ι := Nat) (V := fun gh1 => .pointer (some ⟨gh1, 0, none⟩)) (R := fun gh1 => w.heap.size ≤ gh1) (H' := fun gh1 => [⟨gh1, 53, IV.map (Value.int .u32) ++ ((List.replicate 64 0).map (Value.int .u8) ++ ([Value.int .i64 (([] : List Int).length : Int)])), 73⟩]) (Wants.none rfl) rfl enters12 rfl rfl (fun w hs => (new_m w (by have := hs.size; omega) (hIV.keepH hs (by omega) ne_nil)).mono fun e w' ⟨g, he, hge, hw⟩ => ⟨g, he, Nat.le_trans hs.size hge, hs.made hw hge⟩) (fun gh1 hgh1 => ?_)
        refine TL.gets (Wants.none rfl) rfl (Gets.assign rfl rfl) ?_
        refine TL.nil ?_
        refine TE.then ?_
        refine TC.seq ?_
        refine TC.seq ?_
        refine TC.regionL ?_
        refine TL.gets (Wants.none rfl) rfl (Gets.move rfl rfl) ?_
        refine TL.gets (Wants.none rfl) rfl (Gets.ptrNil rfl Tryd.underlying28 rfl rfl) ?_
        refine TL.nil ?_
        refine TE.then ?_
        refine TC.sub (Sub.cons (i := 0) rfl (Sub.cons (i := 1) rfl (Sub.cons (i := 2) rfl (Sub.cons (i := 6) rfl (Sub.cons (i := 7) rfl (Sub.cons (i := 25) rfl (Sub.nil))))))) ?_
        refine TC.no rfl ?_
        refine TC.skip ?_
        refine TE.then ?_
        refine TC.seq ?_
        refine TC.regionL ?_
        refine TL.gets (Wants.none rfl) rfl (Gets.move rfl rfl) ?_
        refine TL.gets (Wants.none rfl) rfl (Gets.move rfl rfl) ?_
        refine TL.buildSlice (Wants.none rfl) rfl rfl Tryd.underlying34 size22 zero22 rfl (by decide) (by decide) (cells := #[.slice Aa ma ca]) (tot := 1) (by kernel_rfl) (cs := [.slice Aa ma ca]) rfl rfl (fun g1 hg1 => ?_)
        refine TL.call (ι := List Int × List Int) (V := fun s1 => .int .i64 (Pa.length : Int)) (R := fun s1 => HashOK Pa s1.1 s1.2) (H' := fun s1 => [⟨g1, 22, [Value.slice Aa ma ca], 1⟩, ⟨gh1, 53, s1.1.map (Value.int .u32) ++ (s1.2.map (Value.int .u8) ++ ([Value.int .i64 (Pa.length : Int)])), 73⟩]) (Wants.none rfl) rfl enters13 rfl rfl (fun w hs => (write_m ([] : List Int) IV (List.replicate 64 0) [Pa] Pa (by simp) gh1 (some ⟨g1, 0, none⟩) 1 1 w hash_nil (hs.has (⟨gh1, 53, IV.map (Value.int .u32) ++ ((List.replicate 64 0).map (Value.int .u8) ++ ([Value.int .i64 (([] : List Int).length : Int)])), 73⟩) (by simp)) (partsN_one (hs.has (⟨g1, 22, [Value.slice Aa ma ca], 1⟩) (by simp)) (pairwise_ne hs.apart (i := 0) (j := 1) rfl rfl (by omega)) (hsa.toN hs (fun b hb => (ne_cons (by show g1 ≠ b; omega) (ne_cons (by show gh1 ≠ b; omega) ne_nil))) hgh1) (by omega)) (by omega) (by omega) (by have la := hsa.1; have lb := hsb.1; have lc := hsc.1; (try simp only [List.length_append]); omega) (Nat.lt_of_lt_of_le h1 hs.size) (hIV.keepH hs (by omega) (ne_cons (by show g1 ≠ 0; omega) (ne_cons (by show gh1 ≠ 0; omega) ne_nil))) (hK.keepH hs h1 (ne_cons (by show g1 ≠ 1; omega) (ne_cons (by show gh1 ≠ 1; omega) ne_nil))) (by omega)).mono fun e w' ⟨he, st', rs', h1, h2⟩ => ⟨(st', rs'), he.trans (by simp), h1, St.turn (i := 1) (e := ⟨gh1, 53, (st').map (Value.int .u32) ++ ((rs').map (Value.int .u8) ++ ([Value.int .i64 (Pa.length : Int)])), 73⟩) hs rfl rfl h2⟩) (fun s1 hk1 => ?_)
        have hx1 := hk1.len
        have hy1 := hk1.rlen
        refine TL.nil ?_
        refine TE.then ?_
        refine TC.sub (Sub.cons (i := 0) rfl (Sub.cons (i := 1) rfl (Sub.cons (i := 2) rfl (Sub.cons (i := 6) rfl (Sub.cons (i := 7) rfl (Sub.nil)))))) ?_
        refine TC.seq ?_
        refine TC.regionL ?_
        refine TL.gets (Wants.none rfl) rfl (Gets.move rfl rfl) ?_
        refine TL.call (ι := Nat) (V := fun gc1 => .pointer (some ⟨gc1, 0, none⟩)) (R := fun gc1 => w.heap.size ≤ gc1) (H' := fun gc1 => [⟨gc1, 53, s1.1.map (Value.int .u32) ++ (s1.2.map (Value.int .u8) ++ ([Value.int .i64 (Pa.length : Int)])), 73⟩, ⟨g1, 22, [Value.slice Aa ma ca], 1⟩, ⟨gh1, 53, s1.1.map (Value.int .u32) ++ (s1.2.map (Value.int .u8) ++ ([Value.int .i64 (Pa.length : Int)])), 73⟩]) (Wants.none rfl) rfl enters16 rfl rfl (fun w hs => (clone_m Pa s1.1 s1.2 gh1 w hk1 (hs.has (⟨gh1, 53, s1.1.map (Value.int .u32) ++ (s1.2.map (Value.int .u8) ++ ([Value.int .i64 (Pa.length : Int)])), 73⟩) (by simp))).mono fun e w' ⟨g, he, hge, hw⟩ => ⟨g, he, Nat.le_trans hs.size hge, hs.made hw hge⟩) (fun gc1 hgc1 => ?_)
        refine TL.gets (Wants.none rfl) rfl (Gets.assign rfl rfl) ?_
        refine TL.nil ?_
        refine TE.then ?_
        refine TC.seq ?_
        refine TC.seq ?_
        refine TC.regionL ?_
        refine TL.gets (Wants.none rfl) rfl (Gets.move rfl rfl) ?_
        refine TL.gets (Wants.none rfl) rfl (Gets.ptrNil rfl Tryd.underlying28 rfl rfl) ?_
        refine TL.nil ?_
        refine TE.then ?_
        refine TC.sub (Sub.cons (i := 0) rfl (Sub.cons (i := 1) rfl (Sub.cons (i := 2) rfl (Sub.cons (i := 6) rfl (Sub.cons (i := 7) rfl (Sub.cons (i := 8) rfl (Sub.cons (i := 33) rfl (Sub.nil)))))))) ?_
        refine TC.no rfl ?_
        refine TC.skip ?_
        refine TE.then ?_
        refine TC.seq ?_
        refine TC.regionL ?_
        refine TL.gets (Wants.none rfl) rfl (Gets.move rfl rfl) ?_
        refine TL.gets (Wants.none rfl) rfl (Gets.move rfl rfl) ?_
        refine TL.buildSlice (Wants.none rfl) rfl rfl Tryd.underlying34 size22 zero22 rfl (by decide) (by decide) (cells := #[.slice Ab mb cb]) (tot := 1) (by kernel_rfl) (cs := [.slice Ab mb cb]) rfl rfl (fun g2 hg2 => ?_)
        refine TL.call (ι := List Int × List Int) (V := fun s2 => .int .i64 (Pb.length : Int)) (R := fun s2 => HashOK (Pa ++ Pb) s2.1 s2.2) (H' := fun s2 => [⟨g2, 22, [Value.slice Ab mb cb], 1⟩, ⟨gc1, 53, s2.1.map (Value.int .u32) ++ (s2.2.map (Value.int .u8) ++ ([Value.int .i64 ((Pa ++ Pb).length : Int)])), 73⟩, ⟨g1, 22, [Value.slice Aa ma ca], 1⟩, ⟨gh1, 53, s1.1.map (Value.int .u32) ++ (s1.2.map (Value.int .u8) ++ ([Value.int .i64 (Pa.length : Int)])), 73⟩]) (Wants.none rfl) rfl enters13 rfl rfl (fun w hs => (write_m Pa s1.1 s1.2 [Pb] (Pa ++ Pb) (by simp) gc1 (some ⟨g2, 0, none⟩) 1 1 w hk1 (hs.has (⟨gc1, 53, s1.1.map (Value.int .u32) ++ (s1.2.map (Value.int .u8) ++ ([Value.int .i64 (Pa.length : Int)])), 73⟩) (by simp)) (partsN_one (hs.has (⟨g2, 22, [Value.slice Ab mb cb], 1⟩) (by simp)) (pairwise_ne hs.apart (i := 0) (j := 1) rfl rfl (by omega)) (hsb.toN hs (fun b hb => (ne_cons (by show g2 ≠ b; omega) (ne_cons (by show gc1 ≠ b; omega) (ne_cons (by show g1 ≠ b; omega) (ne_cons (by show gh1 ≠ b; omega) ne_nil))))) hgc1) (by omega)) (by omega) (by omega) (by have la := hsa.1; have lb := hsb.1; have lc := hsc.1; (try simp only [List.length_append]); omega) (Nat.lt_of_lt_of_le h1 hs.size) (hIV.keepH hs (by omega) (ne_cons (by show g2 ≠ 0; omega) (ne_cons (by show gc1 ≠ 0; omega) (ne_cons (by show g1 ≠ 0; omega) (ne_cons (by show gh1 ≠ 0; omega) ne_nil))))) (hK.keepH hs h1 (ne_cons (by show g2 ≠ 1; omega) (ne_cons (by show gc1 ≠ 1; omega) (ne_cons (by show g1 ≠ 1; omega) (ne_cons (by show gh1 ≠ 1; omega) ne_nil))))) (by omega)).mono fun e w' ⟨he, st', rs', h1, h2⟩ => ⟨(st', rs'), he.trans (by simp), h1, St.turn (i := 1) (e := ⟨gc1, 53, (st').map (Value.int .u32) ++ ((rs').map (Value.int .u8) ++ ([Value.int .i64 ((Pa ++ Pb).length : Int)])), 73⟩) hs rfl rfl h2⟩) (fun s2 hk2 => ?_)
        have hx2 := hk2.len
        have hy2 := hk2.rlen
        refine TL.nil ?_
        refine TE.then ?_
        refine TC.sub (Sub.cons (i := 0) rfl (Sub.cons (i := 1) rfl (Sub.cons (i := 2) rfl (Sub.cons (i := 6) rfl (Sub.cons (i := 7) rfl (Sub.cons (i := 8) rfl (Sub.nil))))))) ?_
        refine TC.seq ?_
        refine TC.regionL ?_
        refine TL.gets (Wants.none rfl) rfl (Gets.move rfl rfl) ?_
        refine TL.gets (Wants.none rfl) rfl (Gets.move rfl rfl) ?_
        refine TL.buildSlice (Wants.none rfl) rfl rfl Tryd.underlying34 size22 zero22 rfl (by decide) (by decide) (cells := #[.slice Ac mc cc]) (tot := 1) (by kernel_rfl) (cs := [.slice Ac mc cc]) rfl rfl (fun g3 hg3 => ?_)
        refine TL.call (ι := List Int × List Int) (V := fun s3 => .int .i64 (Pc.length : Int)) (R := fun s3 => HashOK (Pa ++ Pc) s3.1 s3.2) (H' := fun s3 => [⟨g3, 22, [Value.slice Ac mc cc], 1⟩, ⟨g2, 22, [Value.slice Ab mb cb], 1⟩, ⟨gc1, 53, s2.1.map (Value.int .u32) ++ (s2.2.map (Value.int .u8) ++ ([Value.int .i64 ((Pa ++ Pb).length : Int)])), 73⟩, ⟨g1, 22, [Value.slice Aa ma ca], 1⟩, ⟨gh1, 53, s3.1.map (Value.int .u32) ++ (s3.2.map (Value.int .u8) ++ ([Value.int .i64 ((Pa ++ Pc).length : Int)])), 73⟩]) (Wants.none rfl) rfl enters13 rfl rfl (fun w hs => (write_m Pa s1.1 s1.2 [Pc] (Pa ++ Pc) (by simp) gh1 (some ⟨g3, 0, none⟩) 1 1 w hk1 (hs.has (⟨gh1, 53, s1.1.map (Value.int .u32) ++ (s1.2.map (Value.int .u8) ++ ([Value.int .i64 (Pa.length : Int)])), 73⟩) (by simp)) (partsN_one (hs.has (⟨g3, 22, [Value.slice Ac mc cc], 1⟩) (by simp)) (pairwise_ne hs.apart (i := 0) (j := 4) rfl rfl (by omega)) (hsc.toN hs (fun b hb => (ne_cons (by show g3 ≠ b; omega) (ne_cons (by show g2 ≠ b; omega) (ne_cons (by show gc1 ≠ b; omega) (ne_cons (by show g1 ≠ b; omega) (ne_cons (by show gh1 ≠ b; omega) ne_nil)))))) hgh1) (by omega)) (by omega) (by omega) (by have la := hsa.1; have lb := hsb.1; have lc := hsc.1; (try simp only [List.length_append]); omega) (Nat.lt_of_lt_of_le h1 hs.size) (hIV.keepH hs (by omega) (ne_cons (by show g3 ≠ 0; omega) (ne_cons (by show g2 ≠ 0; omega) (ne_cons (by show gc1 ≠ 0; omega) (ne_cons (by show g1 ≠ 0; omega) (ne_cons (by show gh1 ≠ 0; omega) ne_nil)))))) (hK.keepH hs h1 (ne_cons (by show g3 ≠ 1; omega) (ne_cons (by show g2 ≠ 1; omega) (ne_cons (by show gc1 ≠ 1; omega) (ne_cons (by show g1 ≠ 1; omega) (ne_cons (by show gh1 ≠ 1; omega) ne_nil)))))) (by omega)).mono fun e w' ⟨he, st', rs', h1, h2⟩ => ⟨(st', rs'), he.trans (by simp), h1, St.turn (i := 4) (e := ⟨gh1, 53, (st').map (Value.int .u32) ++ ((rs').map (Value.int .u8) ++ ([Value.int .i64 ((Pa ++ Pc).length : Int)])), 73⟩) hs rfl rfl h2⟩) (fun s3 hk3 => ?_)
        have hx3 := hk3.len
        have hy3 := hk3.rlen
        refine TL.nil ?_
        refine TE.then ?_
        refine TC.sub (Sub.cons (i := 0) rfl (Sub.cons (i := 1) rfl (Sub.cons (i := 2) rfl (Sub.cons (i := 6) rfl (Sub.cons (i := 7) rfl (Sub.cons (i := 8) rfl (Sub.nil))))))) ?_
        refine TC.seq ?_
        refine TC.regionL ?_
        refine TL.call0 (Wants.none rfl) rfl enters9 rfl rfl (v := .bool true) (fun w hs => alive_c w (Nat.lt_of_lt_of_le h1 hs.size) (hIV.keepH hs (by omega) (ne_cons (by show g3 ≠ 0; omega) (ne_cons (by show g2 ≠ 0; omega) (ne_cons (by show gc1 ≠ 0; omega) (ne_cons (by show g1 ≠ 0; omega) (ne_cons (by show gh1 ≠ 0; omega) ne_nil)))))) (hK.keepH hs h1 (ne_cons (by show g3 ≠ 1; omega) (ne_cons (by show g2 ≠ 1; omega) (ne_cons (by show gc1 ≠ 1; omega) (ne_cons (by show g1 ≠ 1; omega) (ne_cons (by show gh1 ≠ 1; omega) ne_nil))))))) ?_
        refine TL.gets (Wants.none rfl) rfl (Gets.move rfl rfl) ?_
        refine TL.gets (Wants.yes rfl rfl rfl) rfl (Gets.move rfl rfl) ?_
        refine TL.call0 (Wants.yes rfl rfl rfl) rfl enters14 rfl rfl (v := .agg ((shaM (Pa ++ Pb)).map (Value.int .u8)).toArray) (fun w hs => sum_m (Pa ++ Pb) s2.1 s2.2 gc1 w hk2 (hs.has (⟨gc1, 53, s2.1.map (Value.int .u32) ++ (s2.2.map (Value.int .u8) ++ ([Value.int .i64 ((Pa ++ Pb).length : Int)])), 73⟩) (by simp)) (by have la := hsa.1; have lb := hsb.1; have lc := hsc.1; (try simp only [List.length_append]); omega) (Nat.lt_of_lt_of_le h1 hs.size) (hIV.keepH hs (by omega) (ne_cons (by show g3 ≠ 0; omega) (ne_cons (by show g2 ≠ 0; omega) (ne_cons (by show gc1 ≠ 0; omega) (ne_cons (by show g1 ≠ 0; omega) (ne_cons (by show gh1 ≠ 0; omega) ne_nil)))))) (hK.keepH hs h1 (ne_cons (by show g3 ≠ 1; omega) (ne_cons (by show g2 ≠ 1; omega) (ne_cons (by show gc1 ≠ 1; omega) (ne_cons (by show g1 ≠ 1; omega) (ne_cons (by show gh1 ≠ 1; omega) ne_nil))))))) ?_
        refine TL.gets (Wants.yes rfl rfl rfl) rfl (Gets.move rfl rfl) ?_
        refine TL.gets (Wants.yes rfl rfl rfl) rfl (Gets.move rfl rfl) ?_
        refine TL.buildSlice (Wants.yes rfl rfl rfl) rfl rfl Tryd.underlying34 size22 zero22 rfl (by decide) (by decide) (cells := #[.slice Aa ma ca, .slice Ab mb cb]) (tot := 2) (by kernel_rfl) (cs := [.slice Aa ma ca, .slice Ab mb cb]) rfl rfl (fun g4 hg4 => ?_)
        refine TL.call0 (Wants.yes rfl rfl rfl) rfl enters10 rfl rfl (v := .agg ((shaM (Pa ++ Pb)).map (Value.int .u8)).toArray) (fun w hs => of_m [Pa, Pb] (Pa ++ Pb) (by simp) (some ⟨g4, 0, none⟩) 2 2 w (parts_two (hs.has (⟨g4, 22, [Value.slice Aa ma ca, Value.slice Ab mb cb], 2⟩) (by simp)) (hsa.at_ hs (fun b hb => (ne_cons (by show g4 ≠ b; omega) (ne_cons (by show g3 ≠ b; omega) (ne_cons (by show g2 ≠ b; omega) (ne_cons (by show gc1 ≠ b; omega) (ne_cons (by show g1 ≠ b; omega) (ne_cons (by show gh1 ≠ b; omega) ne_nil)))))))) (by omega) (hsb.at_ hs (fun b hb => (ne_cons (by show g4 ≠ b; omega) (ne_cons (by show g3 ≠ b; omega) (ne_cons (by show g2 ≠ b; omega) (ne_cons (by show gc1 ≠ b; omega) (ne_cons (by show g1 ≠ b; omega) (ne_cons (by show gh1 ≠ b; omega) ne_nil)))))))) (by omega)) (Nat.le_refl _) (by omega) (by have la := hsa.1; have lb := hsb.1; have lc := hsc.1; (try simp only [List.length_append]); omega) (Nat.lt_of_lt_of_le h1 hs.size) (hIV.keepH hs (by omega) (ne_cons (by show g4 ≠ 0; omega) (ne_cons (by show g3 ≠ 0; omega) (ne_cons (by show g2 ≠ 0; omega) (ne_cons (by show gc1 ≠ 0; omega) (ne_cons (by show g1 ≠ 0; omega) (ne_cons (by show gh1 ≠ 0; omega) ne_nil))))))) (hK.keepH hs h1 (ne_cons (by show g4 ≠ 1; omega) (ne_cons (by show g3 ≠ 1; omega) (ne_cons (by show g2 ≠ 1; omega) (ne_cons (by show gc1 ≠ 1; omega) (ne_cons (by show g1 ≠ 1; omega) (ne_cons (by show gh1 ≠ 1; omega) ne_nil)))))))) ?_
        refine TL.gets (Wants.yes rfl rfl rfl) rfl (Gets.arrSame rfl Tryd.underlying24 Tryd.underlying5 size5 geq24 rfl rfl (shaM_len (Pa ++ Pb))) ?_
        refine TL.gets (Wants.none rfl) rfl (Gets.pickT rfl rfl rfl) ?_
        refine TL.gets (Wants.none rfl) rfl (Gets.move rfl rfl) ?_
        refine TL.gets (Wants.yes rfl rfl rfl) rfl (Gets.move rfl rfl) ?_
        refine TL.call0 (Wants.yes rfl rfl rfl) rfl enters14 rfl rfl (v := .agg ((shaM (Pa ++ Pc)).map (Value.int .u8)).toArray) (fun w hs => sum_m (Pa ++ Pc) s3.1 s3.2 gh1 w hk3 (hs.has (⟨gh1, 53, s3.1.map (Value.int .u32) ++ (s3.2.map (Value.int .u8) ++ ([Value.int .i64 ((Pa ++ Pc).length : Int)])), 73⟩) (by simp)) (by have la := hsa.1; have lb := hsb.1; have lc := hsc.1; (try simp only [List.length_append]); omega) (Nat.lt_of_lt_of_le h1 hs.size) (hIV.keepH hs (by omega) (ne_cons (by show g4 ≠ 0; omega) (ne_cons (by show g3 ≠ 0; omega) (ne_cons (by show g2 ≠ 0; omega) (ne_cons (by show gc1 ≠ 0; omega) (ne_cons (by show g1 ≠ 0; omega) (ne_cons (by show gh1 ≠ 0; omega) ne_nil))))))) (hK.keepH hs h1 (ne_cons (by show g4 ≠ 1; omega) (ne_cons (by show g3 ≠ 1; omega) (ne_cons (by show g2 ≠ 1; omega) (ne_cons (by show gc1 ≠ 1; omega) (ne_cons (by show g1 ≠ 1; omega) (ne_cons (by show gh1 ≠ 1; omega) ne_nil)))))))) ?_
        refine TL.gets (Wants.yes rfl rfl rfl) rfl (Gets.move rfl rfl) ?_
        refine TL.gets (Wants.yes rfl rfl rfl) rfl (Gets.move rfl rfl) ?_
        refine TL.buildSlice (Wants.yes rfl rfl rfl) rfl rfl Tryd.underlying34 size22 zero22 rfl (by decide) (by decide) (cells := #[.slice Aa ma ca, .slice Ac mc cc]) (tot := 2) (by kernel_rfl) (cs := [.slice Aa ma ca, .slice Ac mc cc]) rfl rfl (fun g5 hg5 => ?_)
        refine TL.call0 (Wants.yes rfl rfl rfl) rfl enters10 rfl rfl (v := .agg ((shaM (Pa ++ Pc)).map (Value.int .u8)).toArray) (fun w hs => of_m [Pa, Pc] (Pa ++ Pc) (by simp) (some ⟨g5, 0, none⟩) 2 2 w (parts_two (hs.has (⟨g5, 22, [Value.slice Aa ma ca, Value.slice Ac mc cc], 2⟩) (by simp)) (hsa.at_ hs (fun b hb => (ne_cons (by show g5 ≠ b; omega) (ne_cons (by show g4 ≠ b; omega) (ne_cons (by show g3 ≠ b; omega) (ne_cons (by show g2 ≠ b; omega) (ne_cons (by show gc1 ≠ b; omega) (ne_cons (by show g1 ≠ b; omega) (ne_cons (by show gh1 ≠ b; omega) ne_nil))))))))) (by omega) (hsc.at_ hs (fun b hb => (ne_cons (by show g5 ≠ b; omega) (ne_cons (by show g4 ≠ b; omega) (ne_cons (by show g3 ≠ b; omega) (ne_cons (by show g2 ≠ b; omega) (ne_cons (by show gc1 ≠ b; omega) (ne_cons (by show g1 ≠ b; omega) (ne_cons (by show gh1 ≠ b; omega) ne_nil))))))))) (by omega)) (Nat.le_refl _) (by omega) (by have la := hsa.1; have lb := hsb.1; have lc := hsc.1; (try simp only [List.length_append]); omega) (Nat.lt_of_lt_of_le h1 hs.size) (hIV.keepH hs (by omega) (ne_cons (by show g5 ≠ 0; omega) (ne_cons (by show g4 ≠ 0; omega) (ne_cons (by show g3 ≠ 0; omega) (ne_cons (by show g2 ≠ 0; omega) (ne_cons (by show gc1 ≠ 0; omega) (ne_cons (by show g1 ≠ 0; omega) (ne_cons (by show gh1 ≠ 0; omega) ne_nil)))))))) (hK.keepH hs h1 (ne_cons (by show g5 ≠ 1; omega) (ne_cons (by show g4 ≠ 1; omega) (ne_cons (by show g3 ≠ 1; omega) (ne_cons (by show g2 ≠ 1; omega) (ne_cons (by show gc1 ≠ 1; omega) (ne_cons (by show g1 ≠ 1; omega) (ne_cons (by show gh1 ≠ 1; omega) ne_nil))))))))) ?_
        refine TL.gets (Wants.yes rfl rfl rfl) rfl (Gets.arrSame rfl Tryd.underlying24 Tryd.underlying5 size5 geq24 rfl rfl (shaM_len (Pa ++ Pc))) ?_
        refine TL.gets (Wants.none rfl) rfl (Gets.pickT rfl rfl rfl) ?_
        refine TL.gets (Wants.none rfl) rfl (Gets.move rfl rfl) ?_
        refine TL.gets (Wants.yes rfl rfl rfl) rfl (Gets.move rfl rfl) ?_
        refine TL.call0 (Wants.yes rfl rfl rfl) rfl enters15 rfl rfl (v := .int .i64 ((Pa ++ Pb).length : Int)) (fun w hs => len_m (Pa ++ Pb) s2.1 s2.2 gc1 w hk2 (hs.has (⟨gc1, 53, s2.1.map (Value.int .u32) ++ (s2.2.map (Value.int .u8) ++ ([Value.int .i64 ((Pa ++ Pb).length : Int)])), 73⟩) (by simp))) ?_
        refine TL.gets (Wants.yes rfl rfl rfl) rfl (Gets.move rfl rfl) ?_
        refine TL.gets (Wants.yes rfl rfl rfl) rfl (Gets.lenSlice rfl Tryd.underlying22 rfl) ?_
        refine TL.gets (Wants.yes rfl rfl rfl) rfl (Gets.move rfl rfl) ?_
        refine TL.gets (Wants.yes rfl rfl rfl) rfl (Gets.lenSlice rfl Tryd.underlying22 rfl) ?_
        refine TL.gets (Wants.yes rfl rfl rfl) rfl (Gets.add rfl rfl rfl (r := ((ma : Int) + (mb : Int))) (w64 (by omega) (by omega))) ?_
        refine TL.gets (Wants.yes rfl rfl rfl) rfl (Gets.isTrue (Gets.eql rfl rfl rfl) (by have la := hsa.1; have lb := hsb.1; (try simp only [List.length_append]); omega)) ?_
        refine TL.gets (Wants.none rfl) rfl (Gets.pickT rfl rfl rfl) ?_
        refine TL.gets (Wants.none rfl) rfl (Gets.assign rfl rfl) ?_
        refine TL.nil ?_
        refine TE.then ?_
        refine TC.ret ?_
        exact TE.ret1 rfl rfl (fun w hs => ⟨rfl, (((((((hs.drop (by assumption)).drop (by assumption)).drop (by assumption)).drop (by assumption)).drop (by assumption)).drop (by assumption)).drop (by assumption))⟩)
end Go.Proofs.YtdcphpmkhekghaaDoor
