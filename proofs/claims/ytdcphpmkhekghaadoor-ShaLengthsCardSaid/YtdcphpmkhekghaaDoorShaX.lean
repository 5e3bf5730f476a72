/-
  The reference: the constants are the tables.
-/
import Derived.Test.YtdcphpmkhekghaaDoorShaX1
import Derived.Test.YtdcphpmkhekghaaDoorShaX2
import Derived.Test.YtdcphpmkhekghaaDoorShaX3
import Derived.Test.YtdcphpmkhekghaaDoorShaX4
namespace Go.Proofs.YtdcphpmkhekghaaDoor
set_option linter.unusedVariables false
set_option linter.unusedSimpArgs false
open Go Go.RowKit


theorem p8_is : prS 18 = P8 := by decide +kernel
theorem p64_is : prS 310 = P64 := by decide +kernel
theorem p309 : (prS 309).length = 63 := by decide +kernel
theorem p17 : (prS 17).length = 7 := by decide +kernel
theorem ball8 : P8.map (fun p => bis p false 40) = R8 := by decide +kernel
theorem before8 (k : Nat) (h : k < 18) : (prS k).length < 8 := by
  obtain ⟨d, hd⟩ := Nat.exists_eq_add_of_le (show k ≤ 17 by omega)
  have := prS_mono d k
  rw [← hd, p17] at this
  omega
theorem before64 (k : Nat) (h : k < 310) : (prS k).length < 64 := by
  obtain ⟨d, hd⟩ := Nat.exists_eq_add_of_le (show k ≤ 309 by omega)
  have := prS_mono d k
  rw [← hd, p309] at this
  omega
theorem map_split {α β : Type} (f : α → β) (l : List α) (r : List β) (hl : l.length = 64) (hr : r.length = 64) (h : ∀ q, q < 4 → ((l.drop (16 * q)).take 16).map f = (r.drop (16 * q)).take 16) : l.map f = r := by
  apply List.ext_getElem (by simp [hl, hr])
  intro i h1 h2
  have hi : i < 64 := by omega
  have := congrArg (·[i % 16]?) (h (i / 16) (by omega))
  simp only [List.getElem?_map, List.getElem?_take, List.getElem?_drop, show i % 16 < 16 by omega, if_true, show 16 * (i / 16) + i % 16 = i by omega, List.getElem?_eq_getElem (show i < l.length by omega), List.getElem?_eq_getElem h2, Option.map_some, Option.some.injEq] at this
  simpa using this
theorem ball64 : P64.map (fun p => bis p true 40) = R64 := map_split _ _ _ rfl rfl fun q hq => by
  obtain rfl | rfl | rfl | rfl : q = 0 ∨ q = 1 ∨ q = 2 ∨ q = 3 := by omega
  · exact ball0
  · exact ball1
  · exact ball2
  · exact ball3
theorem bis_of {L : List Int} {R : List (Int × Int)} {c : Bool} (h : L.map (fun p => bis p c 40) = R) {k : Nat} (hk : k < L.length) : bis (L.getD k 0) c 40 = R.getD k (0, 0) := by
  subst h
  simp [List.getD_eq_getElem?_getD, hk]
def consG (R : List (Int × Int)) : Nat → List Int
  | 0 => []
  | k + 1 => consG R k ++ [IntKind.u32.wrap (R.getD k (0, 0)).1]
theorem cons_of {L : List Int} {R : List (Int × Int)} {c : Bool} (h : L.map (fun p => bis p c 40) = R) : ∀ k, k ≤ L.length → consF L c k = consG R k
  | 0, _ => rfl
  | k + 1, hk => by rw [consF, consG, cons_of h k (by omega), bis_of h (by omega)]
theorem fix8 (k : Nat) (h : k < 8) : ¬ 1 < (bis (P8.getD k 0) false 40).2 - (bis (P8.getD k 0) false 40).1 := by
  rw [bis_of ball8 h]
  have : ∀ k : Fin 8, ¬ 1 < (R8.getD k.val (0, 0)).2 - (R8.getD k.val (0, 0)).1 := by decide +kernel
  exact this ⟨k, h⟩
theorem fix64 (k : Nat) (h : k < 64) : ¬ 1 < (bis (P64.getD k 0) true 40).2 - (bis (P64.getD k 0) true 40).1 := by
  rw [bis_of ball64 h]
  have : ∀ k : Fin 64, ¬ 1 < (R64.getD k.val (0, 0)).2 - (R64.getD k.val (0, 0)).1 := by decide +kernel
  exact this ⟨k, h⟩
theorem cons8 : consF P8 false 8 = IV := (cons_of ball8 8 (Nat.le_refl _)).trans (by decide +kernel)
theorem cons64 : consF P64 true 64 = KT := (cons_of ball64 64 (Nat.le_refl _)).trans (by decide +kernel)
end Go.Proofs.YtdcphpmkhekghaaDoor
