/-
  Digits; strings.IndexByte.
-/
import Derived.Test.YtdcphpmkhekghaaDoorShaK
namespace Go.Proofs.YtdcphpmkhekghaaDoor
set_option linter.unusedVariables false
set_option linter.unusedSimpArgs false
open Go Go.RowKit
theorem enters34 : Enters Tryd.prog 34 := ⟨_, Tryd.func34, by kernel_rfl, by kernel_rfl⟩

theorem find40 : Extern.find Tryd.f40 = some Extern.BytealgIndexByte.indexByte := by kernel_rfl
theorem findNext40 : (Extern.findNext Tryd.f40).isNone = true := by kernel_rfl

/-- A digit's value, or -1. -/
def hexV (n : Int) : Int := match (List.range 16).find? (fun i => (⟨#[48, 49, 50, 51, 52, 53, 54, 55, 56, 57, 97, 98, 99, 100, 101, 102]⟩ : ByteArray)[i]! == UInt8.ofNat n.toNat) with
  | some i => i
  | none => -1
theorem hexV_all : ∀ n : Fin 256, (hexV (n.val : Int) = -1 ∨ (0 ≤ hexV (n.val : Int) ∧ hexV (n.val : Int) < 16 ∧ hexI (hexV (n.val : Int)) = (n.val : Int))) ∧ ((0 ≤ hexV (n.val : Int)) ↔ ((48 ≤ n.val ∧ n.val ≤ 57) ∨ (97 ≤ n.val ∧ n.val ≤ 102))) := by decide +kernel
theorem hexVI_all : ∀ n : Fin 16, hexV (hexI (n.val : Int)) = (n.val : Int) ∧ 0 ≤ hexI (n.val : Int) ∧ hexI (n.val : Int) ≤ 255 := by decide +kernel
theorem hexV_or {n : Int} (h : 0 ≤ n) (h2 : n ≤ 255) : hexV n = -1 ∨ (0 ≤ hexV n ∧ hexV n < 16 ∧ hexI (hexV n) = n) := by
  have := (hexV_all ⟨n.toNat, by omega⟩).1
  simp only [Int.toNat_of_nonneg h] at this; exact this
theorem hexV_iff {n : Int} (h : 0 ≤ n) (h2 : n ≤ 255) : 0 ≤ hexV n ↔ ((48 ≤ n ∧ n ≤ 57) ∨ (97 ≤ n ∧ n ≤ 102)) := by
  have := (hexV_all ⟨n.toNat, by omega⟩).2
  simp only [Int.toNat_of_nonneg h] at this
  rw [this]; omega
theorem hexVI {n : Int} (h : 0 ≤ n) (h2 : n < 16) : hexV (hexI n) = n ∧ 0 ≤ hexI n ∧ hexI n ≤ 255 := by
  have := hexVI_all ⟨n.toNat, by omega⟩
  simp only [Int.toNat_of_nonneg h] at this; exact this
theorem join_all : ∀ a b : Fin 16, IntKind.u8.wrap (orI .i64 (shlI .i64 (a.val : Int) 4) (b.val : Int)) = 16 * (a.val : Int) + (b.val : Int) := by decide +kernel
theorem join_hex {a b : Int} (ha : 0 ≤ a) (ha2 : a < 16) (hb : 0 ≤ b) (hb2 : b < 16) : IntKind.u8.wrap (orI .i64 (shlI .i64 a 4) b) = 16 * a + b := by
  have := join_all ⟨a.toNat, by omega⟩ ⟨b.toNat, by omega⟩
  simp only [Int.toNat_of_nonneg ha, Int.toNat_of_nonneg hb] at this; exact this
/-- Byte k of a string. -/
def chrI (s : ByteArray) (k : Nat) : Int := ((s.data.toList.getD k 0).toNat : Int)
theorem chrI_bd (s : ByteArray) (k : Nat) : 0 ≤ chrI s k ∧ chrI s k ≤ 255 := by
  unfold chrI
  have := (s.data.toList.getD k 0).toNat_lt
  omega
theorem chrI_is {s : ByteArray} {i : Nat} (h : i < s.size) : (((s[i]'h).toNat : Nat) : Int) = chrI s i := by
  unfold chrI
  have hi : i < s.data.toList.length := by rw [Array.length_toList]; exact h
  have : s.data.toList.getD i 0 = s[i] := by
    rw [List.getD_eq_getElem?_getD, List.getElem?_eq_getElem hi, Option.getD_some, Array.getElem_toList]
    rfl
  rw [this]
/-- The digits' values. -/
def prs (s : ByteArray) : Nat → List Int
  | 0 => List.replicate 32 0
  | k + 1 => (prs s k).set k (IntKind.u8.wrap (orI .i64 (shlI .i64 (hexV (chrI s (2 * k))) 4) (hexV (chrI s (2 * k + 1)))))
theorem prs_len (s : ByteArray) : ∀ k, (prs s k).length = 32
  | 0 => by simp [prs]
  | k + 1 => by simp [prs, prs_len s k]
def hexB (s : ByteArray) (k : Nat) : Bool := decide (0 ≤ hexV (chrI s k))
def goodTo (s : ByteArray) (n : Nat) : Prop := ∀ j, j < n → 0 ≤ hexV (chrI s j)
instance (s : ByteArray) (n : Nat) : Decidable (goodTo s n) := Nat.decidableBallLT n _
def rightP (s : ByteArray) : Prop := s.size = 64 ∧ goodTo s 64
instance (s : ByteArray) : Decidable (rightP s) := by unfold rightP; exact inferInstance


theorem run_idx {n : Nat} {L : List (Nat × Value)} {a : Act} {w : World} {o : Oper} {x : Operand} {c : Int} {y : Operand} (hf : Fr n L a) (ho : o.op = .call { callee := .value (.func 40), args := #[x, y], argTypes := #[9, 5] } ∧ ev L x = some (.string (⟨#[48, 49, 50, 51, 52, 53, 54, 55, 56, 57, 97, 98, 99, 100, 101, 102]⟩ : ByteArray)) ∧ ev L y = some (.int .u8 c)) (hc0 : 0 ≤ c) (hc1 : c ≤ 255) :
    (execOp a.eval o).run Tryd.prog w = .ok (.value (.int .i64 (hexV c))) w := by
  obtain ⟨h1, h2, h3⟩ := ho
  simp only [execOp, h1, resolve, show a.eval (.func 40) = .func (.func 40) #[] #[] from rfl, Deferred.ofValue, Sem.run_bind, Sem.run_pure, Result.andThen_ok, List.map_toArray, List.map_cons, List.map_nil, hf.eval h2, hf.eval h3, invoke]
  have hn : Extern.findNext Tryd.f40 = none := by
    have := findNext40
    cases h : Extern.findNext Tryd.f40 with
    | none => rfl
    | some e => rw [h] at this; cases this
  have hnm : (Tryd.f40.name == "runtime.NumGoroutine") = false := by kernel_rfl
  have hbd : Tryd.f40.body.isNone = true := by kernel_rfl
  have hrun : (Extern.BytealgIndexByte.indexByte #[.string (⟨#[48, 49, 50, 51, 52, 53, 54, 55, 56, 57, 97, 98, 99, 100, 101, 102]⟩ : ByteArray), .int .u8 c]).run Tryd.prog w = .ok (.int .i64 (hexV c)) w := by
    have hgen : ∀ r, List.find? (fun i => (⟨#[48, 49, 50, 51, 52, 53, 54, 55, 56, 57, 97, 98, 99, 100, 101, 102]⟩ : ByteArray)[i]! == UInt8.ofNat c.toNat) (List.range 16) = r → (Extern.BytealgIndexByte.indexByte #[.string (⟨#[48, 49, 50, 51, 52, 53, 54, 55, 56, 57, 97, 98, 99, 100, 101, 102]⟩ : ByteArray), .int .u8 c]).run Tryd.prog w = .ok (.int .i64 (match r with | some i => (i : Int) | none => -1)) w := by
      intro r hr
      show Sem.run Tryd.prog (match List.find? (fun i => (⟨#[48, 49, 50, 51, 52, 53, 54, 55, 56, 57, 97, 98, 99, 100, 101, 102]⟩ : ByteArray)[i]! == UInt8.ofNat c.toNat) (List.range 16) with | some i => pure (goInt i) | none => pure (goInt (-1))) w = _
      rw [hr]
      cases r <;> rfl
    exact hgen _ rfl
  simp only [callFunc, program, Sem.run_bind, Sem.run, Result.andThen_ok, Tryd.func40, hnm, hbd, Bool.false_eq_true, if_false, if_true, mark, hn, find40, hrun, Array.append_empty, List.append_toArray, List.nil_append, List.append_nil]
  rfl

set_option maxRecDepth 100000 in
set_option maxHeartbeats 400000 in
theorem lindexByte_c (c : Int) (w : World) (hc0 : 0 ≤ c) (hc1 : c ≤ 255) : Calls Tryd.prog 34 #[.string (⟨#[48, 49, 50, 51, 52, 53, 54, 55, 56, 57, 97, 98, 99, 100, 101, 102]⟩ : ByteArray), .int .u8 c] w fun e w' => e = .returned (.int .i64 (hexV c)) ∧ St w [] w' := by
  refine calls_from (args := [.string (⟨#[48, 49, 50, 51, 52, 53, 54, 55, 56, 57, 97, 98, 99, 100, 101, 102]⟩ : ByteArray), .int .u8 c]) Tryd.func34 rfl Tryd.ntmps34 (by simp) ?_
  refine TC.sub (Sub.cons (i := 0) rfl (Sub.cons (i := 1) rfl (Sub.nil))) ?_
  refine TC.seq ?_
  refine TC.regionL ?_
  refine TL.gets (Wants.none rfl) rfl (Gets.assign rfl rfl) ?_
  refine TL.nil ?_
  refine TE.then ?_
  refine TC.seq ?_
  refine TC.regionL ?_
  refine TL.gets (Wants.none rfl) rfl (Gets.move rfl rfl) ?_
  refine TL.gets (Wants.none rfl) rfl (Gets.move rfl rfl) ?_
  refine TL.gets (Wants.none rfl) rfl (Gets.closed (v := .int .i64 (hexV c)) (fun a w hf hs => run_idx hf ⟨rfl, rfl, rfl⟩ hc0 hc1)) ?_
  refine TL.gets (Wants.none rfl) rfl (Gets.assign rfl rfl) ?_
  refine TL.nil ?_
  refine TE.then ?_
  refine TC.ret ?_
  exact TE.ret1 rfl rfl (fun w hs => ⟨rfl, hs⟩)

set_option maxRecDepth 100000 in
set_option maxHeartbeats 400000 in
theorem indexByte_c (c : Int) (w : World) (hc0 : 0 ≤ c) (hc1 : c ≤ 255) : Calls Tryd.prog 27 #[.string (⟨#[48, 49, 50, 51, 52, 53, 54, 55, 56, 57, 97, 98, 99, 100, 101, 102]⟩ : ByteArray), .int .u8 c] w fun e w' => e = .returned (.int .i64 (hexV c)) ∧ St w [] w' := by
  refine calls_from (args := [.string (⟨#[48, 49, 50, 51, 52, 53, 54, 55, 56, 57, 97, 98, 99, 100, 101, 102]⟩ : ByteArray), .int .u8 c]) Tryd.func27 rfl Tryd.ntmps27 (by simp) ?_
  refine TC.sub (Sub.cons (i := 0) rfl (Sub.cons (i := 1) rfl (Sub.nil))) ?_
  refine TC.seq ?_
  refine TC.regionL ?_
  refine TL.gets (Wants.none rfl) rfl (Gets.assign rfl rfl) ?_
  refine TL.nil ?_
  refine TE.then ?_
  refine TC.seq ?_
  refine TC.regionL ?_
  refine TL.gets (Wants.none rfl) rfl (Gets.move rfl rfl) ?_
  refine TL.gets (Wants.none rfl) rfl (Gets.move rfl rfl) ?_
  refine TL.call0 (Wants.none rfl) rfl enters34 rfl rfl (v := .int .i64 (hexV c)) (fun w hs => lindexByte_c c w hc0 hc1) ?_
  refine TL.gets (Wants.none rfl) rfl (Gets.assign rfl rfl) ?_
  refine TL.nil ?_
  refine TE.then ?_
  refine TC.ret ?_
  exact TE.ret1 rfl rfl (fun w hs => ⟨rfl, hs⟩)
end Go.Proofs.YtdcphpmkhekghaaDoor
