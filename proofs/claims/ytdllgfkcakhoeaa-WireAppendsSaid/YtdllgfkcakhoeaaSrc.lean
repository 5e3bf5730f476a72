/-
  General facts of slices, parts and blocks; append onto a full slice.
-/
import Derived.Test.YtdllgfkcakhoeaaMix3
import Derived.Test.YtdllgfkcakhoeaaMixQ
import Derived.ArgAppend
namespace Go.Proofs.Ytdllgfkcakhoeaa
set_option linter.unusedVariables false
set_option linter.unusedSimpArgs false
set_option linter.unusedVariables false
open Go Go.RowKit
theorem Fresh.ne {w0 : World} {Z : List Ent} {b : Nat} (h : Fresh w0 Z) (hb : b < w0.heap.size) : ∀ e ∈ Z, e.g ≠ b := fun e he hc => by
  have := h e he
  omega
theorem RowI.keepH {w w' : World} {H : List Ent} {b off n : Nat} {kd : IntKind} {B : List Int} (h : RowI w b off n kd B) (hs : St w H w') (hb : b < w.heap.size) (hne : ∀ e ∈ H, e.g ≠ b) : RowI w' b off n kd B := fun j hj =>
  (hs.old_cell (ad := ⟨b, off + j, none⟩) hb hne).trans (h j hj)
theorem Src.at_ {w0 w : World} {H : List Ent} {A : Option Addr} {m : Nat} {kd : IntKind} {B : List Int} (h : Src w0 A m kd B) (hs : St w0 H w) (hH : ∀ b, b < w0.heap.size → ∀ e ∈ H, e.g ≠ b) : Src w A m kd B := by
  obtain ⟨h1, h2⟩ := h
  refine ⟨h1, ?_⟩
  rcases h2 with h2 | ⟨b, off, hA, hb, hr⟩
  · exact .inl h2
  · exact .inr ⟨b, off, hA, Nat.lt_of_lt_of_le hb hs.size, hr.keepH hs hb (hH b hb)⟩
theorem rowI_ent {w : World} {g t tot n : Nat} {W : List Int} {kd : IntKind} (hl : Ent.lies ⟨g, t, W.map (Value.int kd), tot⟩ w) (hW : W.length = n) : RowI w g 0 n kd W := fun j hj => by
  rw [Nat.zero_add]; exact hl.cell (ints_get (by omega))
/-- A part of a slice. -/
theorem Src.cut {w : World} {b off m l n : Nat} {kd : IntKind} {B : List Int} (h : Src w (some ⟨b, off, none⟩) m kd B) (hl : l + n ≤ m) : Src w (some ⟨b, off + l, none⟩) n kd ((B.drop l).take n) := by
  obtain ⟨h1, h2⟩ := h
  refine ⟨by simp; omega, ?_⟩
  rcases h2 with h2 | ⟨b', off', hA, hb, hr⟩
  · exact .inl (by omega)
  · cases hA
    refine .inr ⟨b, off + l, rfl, hb, fun j hj => ?_⟩
    rw [Nat.add_assoc, hr (l + j) (by omega)]
    simp [List.getD_eq_getElem?_getD, List.getElem?_take, hj]
theorem Src.head {w : World} {A : Option Addr} {m n : Nat} {kd : IntKind} {B : List Int} (h : Src w A m kd B) (hl : n ≤ m) : Src w A n kd (B.take n) := by
  obtain ⟨h1, h2⟩ := h
  refine ⟨by simp; omega, ?_⟩
  rcases h2 with h2 | ⟨b, off, hA, hb, hr⟩
  · exact .inl (by omega)
  · refine .inr ⟨b, off, hA, hb, fun j hj => ?_⟩
    rw [hr j (by omega)]
    simp [List.getD_eq_getElem?_getD, List.getElem?_take, hj]
def PartsO (w : World) (A : Option Addr) (m : Nat) (Ps : List (List Int)) : Prop :=
  Ps.length = m ∧ (m = 0 ∨ ∃ b off, A = some ⟨b, off, none⟩ ∧ b < w.heap.size ∧ ∀ i, i < m → ∃ Ai mi ci, w.cell? ⟨b, off + i, none⟩ = some (.slice Ai mi ci) ∧ Src w Ai mi .u8 (Ps.getD i []) ∧ mi ≤ ci)
theorem PartsO.at_ {w0 w : World} {H : List Ent} {A : Option Addr} {m : Nat} {Ps : List (List Int)} (h : PartsO w0 A m Ps) (hs : St w0 H w) (hH : ∀ b, b < w0.heap.size → ∀ e ∈ H, e.g ≠ b) : PartsO w A m Ps := by
  obtain ⟨h1, h2⟩ := h
  refine ⟨h1, ?_⟩
  rcases h2 with h2 | ⟨b, off, hA, hb, hc⟩
  · exact .inl h2
  · refine .inr ⟨b, off, hA, Nat.lt_of_lt_of_le hb hs.size, fun i hi => ?_⟩
    obtain ⟨Ai, mi, ci, k1, k2, k3⟩ := hc i hi
    exact ⟨Ai, mi, ci, (hs.old_cell (ad := ⟨b, off + i, none⟩) hb (hH b hb)).trans k1, k2.at_ hs hH, k3⟩
theorem parts_one {w : World} {gp t tot m c : Nat} {A : Option Addr} {P : List Int} (hl : Ent.lies ⟨gp, t, [Value.slice A m c], tot⟩ w) (h : Src w A m .u8 P) (hmc : m ≤ c) : PartsO w (some ⟨gp, 0, none⟩) 1 [P] :=
  ⟨rfl, .inr ⟨gp, 0, rfl, hl.lt, fun i hi => by
    obtain rfl : i = 0 := by omega
    exact ⟨A, m, c, hl.cell (o := 0) rfl, h, hmc⟩⟩⟩
theorem flat_succ {Ps : List (List Int)} {i : Nat} (h : i < Ps.length) (M : List Int) : M ++ (Ps.take (i + 1)).flatten = (M ++ (Ps.take i).flatten) ++ Ps.getD i [] := by
  rw [List.take_succ_eq_append_getElem h, show Ps.getD i [] = Ps[i] by simp [h]]
  simp only [List.flatten_append, List.flatten_cons, List.flatten_nil, List.append_nil, List.append_assoc]
theorem own_mono {N N' : Nat} {t : TypeId} {kd : IntKind} {v : Value} {W : List Int} {He : List Ent} (h : Own N' t kd v W He) (hN : N ≤ N') : Own N t kd v W He := by
  rcases h with h | ⟨g, c, h1, h2, h3, h4⟩
  · exact .inl h
  · exact .inr ⟨g, c, h1, h2, Nat.le_trans hN h3, h4⟩
theorem own_some {N t : Nat} {kd : IntKind} {v : Value} {W : List Int} {He : List Ent} (h : Own N t kd v W He) (hv : v ≠ .slice none 0 0) : ∃ g c, v = .slice (some ⟨g, 0, none⟩) W.length c ∧ He = [⟨g, t, W.map (Value.int kd), c⟩] ∧ N ≤ g ∧ W.length ≤ c ∧ c ≤ maxLen := by
  rcases h with ⟨h, _, _⟩ | ⟨g, c, h1, h2, h3, h4, h5⟩
  · exact absurd h hv
  · exact ⟨g, c, h1, h2, h3, h4, h5⟩
def Bytes (D : List Int) : Prop := ∀ x ∈ D, 0 ≤ x ∧ x ≤ 255
theorem Bytes.get {D : List Int} (h : Bytes D) (j : Nat) : 0 ≤ D.getD j 0 ∧ D.getD j 0 ≤ 255 := by
  rw [List.getD_eq_getElem?_getD]
  by_cases hj : j < D.length
  · rw [List.getElem?_eq_getElem hj]; exact h _ (List.getElem_mem hj)
  · rw [List.getElem?_eq_none (by omega)]; simp
theorem Bytes.app {A B : List Int} (ha : Bytes A) (hb : Bytes B) : Bytes (A ++ B) := fun x hx => (List.mem_append.1 hx).elim (ha x) (hb x)
theorem Bytes.take {A : List Int} (ha : Bytes A) (n : Nat) : Bytes (A.take n) := fun x hx => ha x (List.mem_of_mem_take hx)
theorem Bytes.drop {A : List Int} (ha : Bytes A) (n : Nat) : Bytes (A.drop n) := fun x hx => ha x (List.mem_of_mem_drop hx)
theorem bytes_set {l : List Int} (h : Bytes l) {i : Nat} {v : Int} (hv : 0 ≤ v ∧ v ≤ 255) : Bytes (l.set i v) := fun x hx => by
  rcases List.mem_or_eq_of_mem_set hx with hx | rfl
  · exact h x hx
  · exact hv
theorem getD_set {l : List Int} {i j : Nat} {v d : Int} (hi : i < l.length) : (l.set i v).getD j d = if i = j then v else l.getD j d := by
  simp only [List.getD_eq_getElem?_getD, List.getElem?_set]
  by_cases h : i = j
  · subst h; simp [hi]
  · simp [h]
theorem list_of_getD {l r : List Int} (h : l.length = r.length) (hg : ∀ i, i < l.length → l.getD i 0 = r.getD i 0) : l = r := by
  apply List.ext_getElem h
  intro i h1 h2
  have := hg i h1
  simpa [List.getD_eq_getElem?_getD, h1, h2] using this
theorem take_snoc {l : List Int} {k : Nat} (h : k < l.length) : l.take (k + 1) = l.take k ++ [l.getD k 0] := by
  rw [List.take_succ_eq_append_getElem h, show l.getD k 0 = l[k] by simp [h]]
theorem bs_size (l : List Int) : (bs l).size = l.length := by
  unfold bs
  show (List.toArray _).size = _
  simp
theorem bs_inj {l r : List Int} (hl : Bytes l) (hr : Bytes r) : bs l = bs r ↔ l = r := by
  constructor
  · intro h
    unfold bs at h
    have h1 := congrArg (fun b : ByteArray => b.data.toList) h
    simp only [List.toList_toArray] at h1
    have hlen : l.length = r.length := by have := congrArg List.length h1; simpa using this
    refine list_of_getD hlen fun i hi => ?_
    have h2 := congrArg (fun z : List UInt8 => z[i]?) h1
    simp only [List.getElem?_map, List.getElem?_eq_getElem hi, List.getElem?_eq_getElem (show i < r.length by omega), Option.map_some, Option.some.injEq] at h2
    have b1 := hl _ (List.getElem_mem hi)
    have b2 := hr _ (List.getElem_mem (show i < r.length by omega))
    have h3 := congrArg UInt8.toNat h2
    rw [UInt8.toNat_ofNat', UInt8.toNat_ofNat'] at h3
    simp only [List.getD_eq_getElem?_getD, List.getElem?_eq_getElem hi, List.getElem?_eq_getElem (show i < r.length by omega), Option.getD_some]
    omega
  · intro h; rw [h]
theorem bs_beq {B C : List Int} (hB : Bytes B) (hC : Bytes C) : ((bs B).toList == (bs C).toList) = decide (B = C) := by
  rw [Bool.eq_iff_iff, beq_iff_eq, decide_eq_true_iff, ← bs_inj hB hC, ByteArray.toList_eq, ByteArray.toList_eq]
  constructor
  · intro h; exact ByteArray.ext (Array.toList_inj.1 h)
  · intro h; rw [h]
section
variable {P : Program} {ops : Array Oper} {Q : Exit → Act → World → Prop} {n : Sz} {w0 : World} {L L' : List (Nat × Value)} {H : List Ent}
variable {o : Oper} {rest : List Oper} {v u : Value} {x y z : Operand} {k m j : Nat} {t t' e : TypeId} {ks : List Nat} {kd : IntKind}
/-- What append onto a full slice of whatever memory gives: a slice of the call's own. -/
theorem run_append_full {A As : Option Addr} {bytes m sl sc : Nat} {W B : List Int} {zv : Value} {ty : TypeId} {w : World} (h1 : P.underlying t = some (.slice e)) (hz : (P.info? e).map (fun i => (i.zero, i.size, i.bytes)) = some (some zv, 1, bytes)) (hzc : zv.cells = #[zv])
    (hW : Src w A m kd W) (hB : Src w As sl kd B) (hsl : 0 < sl) (hA : A = none → m = 0) (h63 : m + sl ≤ maxLen) (hbytes : (m + sl) * bytes ≤ 140737488355328) :
    ∃ v' w' He', (Builtin.append_ #[t, t] ty #[.slice A m m, .slice As sl sc]).run P w = .ok v' w' ∧ Own w.heap.size e kd v' (W ++ B) He' ∧ v' ≠ .slice none 0 0 ∧ St w He' w' := by
  obtain ⟨i, hi1, hi2⟩ := Option.map_eq_some_iff.1 hz
  simp only [Prod.mk.injEq] at hi2
  obtain ⟨hz1, hz2, hz3⟩ := hi2
  have hlen : (W ++ B).length = m + sl := by simp [hW.1, hB.1]
  have hmap : (W ++ B).map (Value.int kd) = W.map (Value.int kd) ++ B.map (Value.int kd) := by simp
  have hcellsOf : ∀ {A : Option Addr} {q : Nat} {C : List Int} {ad : Addr}, Src w A q kd C → A = some ad → ∀ (j : Nat) (u : Value), (C.map (Value.int kd))[j]? = some u → w.cell? (ad.add j) = some u := by
    intro A q C ad hC hAd j u hu
    rcases hC.2 with h | ⟨b, off, h, _, hr⟩
    · have hBn : C = [] := List.length_eq_zero_iff.1 (by rw [hC.1, h])
      subst hBn; simp at hu
    · rw [hAd] at h
      cases h
      have hj : j < C.length := by have := (List.getElem?_eq_some_iff.1 hu).1; simpa using this
      rw [addr_add, hr j (by rw [← hC.1]; exact hj)]
      rw [ints_get hj] at hu; exact hu
  obtain ⟨ads, hAs⟩ : ∃ ads, As = some ads := by
    rcases hB.2 with h | ⟨b, off, h, _, _⟩
    · omega
    · exact ⟨_, h⟩
  subst hAs
  have finish : ∀ v' w', w'.ownsRow w.heap.size e 1 v' (m + sl) (W.map (Value.int kd) ++ B.map (Value.int kd)) → w.grownBy w' none → ∃ He', Own w.heap.size e kd v' (W ++ B) He' ∧ v' ≠ .slice none 0 0 ∧ St w He' w' := by
    intro v' w' hrow hgrown
    rw [← hmap, ← hlen] at hrow
    obtain ⟨He', hown', hHe⟩ := own_of_row hrow
    have hv : v' ≠ .slice none 0 0 := by
      rcases hown' with ⟨_, h, _⟩ | ⟨g, c, h, _⟩
      · have := congrArg List.length h
        rw [hlen] at this
        simp at this; omega
      · rw [h]; intro hc; cases hc
    refine ⟨He', hown', hv, ?_⟩
    have := St.regrow (H := []) (He := []) (He' := He') (St.refl w) hgrown (by simp) (by simp) (by simp) (by
      rcases hHe with h | ⟨d, h, hd, hdN, hdv⟩
      · exact .inl h
      · exact .inr ⟨d, h, hd, hdN, .inr hdN⟩)
    simpa using this
  cases A with
  | none =>
    have hm := hA rfl
    subst hm
    have hWn : W = [] := List.length_eq_zero_iff.1 hW.1
    subst hWn
    obtain ⟨v', w', h2, h3, h4, _, _⟩ := run_append_own_at (P := P) w w.heap.size t ty e i zv 1 bytes h1 hi1 hz1 hz2 hz3 (by rw [hzc]; rfl) (by omega) (.slice none 0 0) 0 [] (World.ownsRow_nil w _ e 1) ads sl sc (B.map (Value.int kd)) (by simp [hB.1]) (hcellsOf hB rfl) (by intro u hu; exact ints_one u hu) h63 hbytes (Nat.le_refl _)
    obtain ⟨He', k1, k2, k3⟩ := finish v' w' h3 h4
    exact ⟨v', w', He', h2, k1, k2, k3⟩
  | some ad =>
    obtain ⟨v', w', h2, h3, h4⟩ := run_append_arg_grows (P := P) w t ty e i zv 1 bytes h1 hi1 hz1 hz2 hz3 (by rw [hzc]; rfl) (by omega) ad m m (W.map (Value.int kd)) (by simp [hW.1]) (hcellsOf hW rfl) ads sl sc (B.map (Value.int kd)) (by simp [hB.1]) (hcellsOf hB rfl) (by omega) h63 hbytes
    obtain ⟨He', k1, k2, k3⟩ := finish v' w' h3 h4
    exact ⟨v', w', He', h2, k1, k2, k3⟩
/-- Append of something onto a full slice. -/
theorem TN.appendFull {A As : Option Addr} {bytes sl sc : Nat} {W B : List Int} {zv : Value} (hg : Wants n ops L o) (hi' : inside n o.dst = true) (ho : o.op = .call { callee := .builtin .append, args := #[x, y], argTypes := #[t, t] })
    (h1 : P.underlying t = some (.slice e)) (hz : (P.info? e).map (fun i => (i.zero, i.size, i.bytes)) = some (some zv, 1, bytes)) (hzc : zv.cells = #[zv])
    (hx : ev L x = some (.slice A m m)) (hy : ev L y = some (.slice As sl sc)) (hW : ∀ w, St w0 H w → Src w A m kd W) (hsrc : ∀ w, St w0 H w → Src w As sl kd B) (hsl : 0 < sl) (hA : A = none → m = 0)
    (h63 : m + sl ≤ maxLen) (hbytes : (m + sl) * bytes ≤ 140737488355328)
    (hr : ∀ v' He', Own w0.heap.size e kd v' (W ++ B) He' → v' ≠ .slice none 0 0 → TN P ops Q n w0 ks rest (put L o.dst v') (H ++ He')) : TN P ops Q n w0 (3 :: ks) (o :: rest) L H :=
  fun a hf => .inr ⟨rfl, fun v' S' => ∃ He', Own w0.heap.size e kd v' (W ++ B) He' ∧ v' ≠ .slice none 0 0 ∧ S' = St w0 (H ++ He'), fun w hs => by
    obtain ⟨v', w', He', hrun, hown, hv, hst⟩ := run_append_full (ty := o.type) (sc := sc) h1 hz hzc (hW w hs) (hsrc w hs) hsl hA h63 hbytes
    have hrun' : (execOp a.eval o).run P w = .ok (.value v') w' := by
      simp only [execOp, ho, resolve, invoke, builtin, Sem.run_bind, Sem.run_pure, Result.andThen_ok, List.map_toArray, List.map_cons, List.map_nil, hf.eval hx, hf.eval hy, hrun]
    exact ⟨.inl ⟨v', w', _, hrun', ⟨He', own_mono hown hs.size, hv, rfl⟩, st_call hs hst hown.new⟩, hg a hf⟩, fun v' S' ⟨He', h1, h2, h3⟩ => by subst h3; exact hr v' He' h1 h2 _ (hf.put o.dst _ hi')⟩
variable {p q : Int} {lo hi mx : Option Operand}
/-- A slice expression with three indices. -/
theorem Gets.sliceS3 {A A' : Option Addr} {len cap l h c s : Nat} {xh xm : Operand} (ho : o.op = .slice t x lo (some xh) (some xm)) (h1 : P.underlying t = some (.slice e)) (hsz : (P.info? e).map (·.size) = some s)
    (hx : ev L x = some (.slice A len cap)) (hlo : bnd L 0 lo l) (hhi : bnd L len (some xh) h) (hmx : bnd L cap (some xm) c) (hlh : l ≤ h) (hhc : h ≤ c) (hcc : c ≤ cap) (hA : cutA A c l s = A') {ln cp : Nat} (hln : h - l = ln) (hcp : c - l = cp) : Gets P n w0 o L H (.slice A' ln cp) := fun a w hf hs => by
  subst hln; subst hcp
  simp only [execOp, ho, hf.eval hx]
  refine run_value ?_
  subst hA
  obtain ⟨k1, p1, e1, rfl⟩ := hhi
  obtain ⟨k2, p2, e2, rfl⟩ := hmx
  have hb : (Instr.sliceBounds true len cap (lo.map a.eval) (some (.int k1 (h : Int))) (some (.int k2 (c : Int)))).run P w = .ok (l, h, c) w := by
    unfold Instr.sliceBounds
    cases lo with
    | none => simp only [bnd] at hlo; subst hlo; simp [Sem.run_bind, Instr.sliceBound, asIntOf, hhc, hcc]
    | some v => obtain ⟨k3, p3, e3, rfl⟩ := hlo; simp [Sem.run_bind, Instr.sliceBound, asIntOf, hlh, hhc, hcc, hf.eval e3]
  simp only [Instr.sliceAt, Instr.slice, Sem.run_bind, run_under h1, Result.andThen_ok, Option.map_some, hf.eval e1, hf.eval e2, hb, run_size hsz, Sem.run_pure]
  rfl
theorem eqIn_sn (d : Nat) {A : Option Addr} {m c m' c' : Nat} (h1 : P.underlying t = some (.slice e)) (w : World) : (Op.equalIn (d + 1) t (.slice A m c) (.slice none m' c')).run P w = .ok A.isNone w := by cases A <;> simp [Op.equalIn, Sem.run_bind, run_under h1]
/-- A slice against nil. -/
theorem Gets.sliceNil {A : Option Addr} {m c m' c' : Nat} (ho : o.op = .binOp .eql t x y t') (h1 : P.underlying t = some (.slice e)) (hx : ev L x = some (.slice A m c)) (hy : ev L y = some (.slice none m' c')) : Gets P n w0 o L H (.bool A.isNone) := fun a w hf hs => by
  simp only [execOp, ho, hf.eval hx, hf.eval hy]
  refine run_value ?_
  exact run_equal (eqIn_sn 9999 h1 w) rfl rfl
theorem Gets.bytesEq {B C : List Int} (ho : o.op = .binOp .eql t x y t') (hx : ev L x = some (.string (bs B))) (hy : ev L y = some (.string (bs C))) (hB : Bytes B) (hC : Bytes C) : Gets P n w0 o L H (.bool (decide (B = C))) :=
  Gets.strEq ho hx hy (fun w => by
    have h := bs_beq hB hC
    simp [Op.stringOp, h])
theorem Gets.bytesNe {B C : List Int} (ho : o.op = .binOp .neq t x y t') (hx : ev L x = some (.string (bs B))) (hy : ev L y = some (.string (bs C))) (h1 : P.underlying t = some .string) (hB : Bytes B) (hC : Bytes C) : Gets P n w0 o L H (.bool (decide (B ≠ C))) := fun a w hf hs => by
  simp only [execOp, ho, hf.eval hx, hf.eval hy]
  refine run_value ?_
  have h := bs_beq hB hC
  simp [eqGuard, binOp, Sem.run_bind, Op.stringOp, h]
theorem Gets.min2 (ho : o.op = .call { callee := .builtin .min, args := #[x, y], argTypes := #[t, t] }) (hx : ev L x = some (.int kd p)) (hy : ev L y = some (.int kd q)) : Gets P n w0 o L H (.int kd (if q < p then q else p)) := fun a w hf hs => by
  simp only [execOp, ho, resolve, invoke, builtin, Sem.run_bind, Sem.run_pure, Result.andThen_ok, List.map_toArray, List.map_cons, List.map_nil, hf.eval hx, hf.eval hy, Builtin.min_]
  simp [Builtin.min2, Sem.run_bind]
theorem Gets.min3 {r : Int} (ho : o.op = .call { callee := .builtin .min, args := #[x, y, z], argTypes := #[t, t, t] }) (hx : ev L x = some (.int kd p)) (hy : ev L y = some (.int kd q)) (hz : ev L z = some (.int kd r)) : Gets P n w0 o L H (.int kd (if r < (if q < p then q else p) then r else (if q < p then q else p))) := fun a w hf hs => by
  simp only [execOp, ho, resolve, invoke, builtin, Sem.run_bind, Sem.run_pure, Result.andThen_ok, List.map_toArray, List.map_cons, List.map_nil, hf.eval hx, hf.eval hy, hf.eval hz, Builtin.min_]
  simp [Builtin.min2, Sem.run_bind]
end
end Go.Proofs.Ytdllgfkcakhoeaa
