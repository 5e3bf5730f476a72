/-
  A number that is written and read back.
-/
import Derived.Test.YtdllgfkcakhoeaaWir
namespace Go.Proofs.Ytdllgfkcakhoeaa
set_option linter.unusedVariables false
set_option linter.unusedSimpArgs false
set_option linter.unusedVariables false
open Go Go.RowKit
/-- The number that bytes are. -/
def valB (B : List Int) : Int := B.foldl (fun a b => 256 * a + b) 0
theorem valB_snoc (B : List Int) (b : Int) : valB (B ++ [b]) = 256 * valB B + b := by unfold valB; rw [List.foldl_append]; rfl
theorem shr_nat {x q : Nat} (hq : q ≤ 64) : shrI .u64 (x : Int) (q : Int) = ((x / 2 ^ q : Nat) : Int) := by
  have hm : min q IntKind.u64.bits = q := Nat.min_eq_left hq
  unfold shrI
  rw [Int.toNat_natCast, hm, Int.fdiv_eq_ediv_of_nonneg _ (Int.le_of_lt (Int.pow_pos (by decide))), Int.natCast_ediv, Int.natCast_pow]; rfl
theorem wrap8_nat (y : Nat) : IntKind.u8.wrap (y : Int) = ((y % 256 : Nat) : Int) := by
  simp [IntKind.wrap, IntKind.signed, IntKind.bits]
theorem val_be {x n : Nat} (hn : n ≤ 8) : ∀ k, k ≤ n → valB (beP (x : Int) (n : Int) k) = ((x / 2 ^ (8 * n - 8 * k) % 256 ^ k : Nat) : Int)
  | 0, _ => by simp [beP, valB, Nat.mod_one]
  | k + 1, hk => by
    have ih := val_be (x := x) hn k (by omega)
    rw [beP_succ, valB_snoc, ih]
    have hq : (8 * (n : Int) - 8 * (k : Int) - 8) = ((8 * n - 8 * (k + 1) : Nat) : Int) := by omega
    rw [hq, shr_nat (by omega), wrap8_nat]
    have h1 : x / 2 ^ (8 * n - 8 * k) = x / 2 ^ (8 * n - 8 * (k + 1)) / 256 := by
      rw [Nat.div_div_eq_div_mul, show (256 : Nat) = 2 ^ 8 by rfl, ← Nat.pow_add, show 8 * n - 8 * (k + 1) + 8 = 8 * n - 8 * k by omega]
    rw [h1, show (256 : Nat) ^ (k + 1) = 256 * 256 ^ k by rw [Nat.pow_succ, Nat.mul_comm], Nat.mod_mul]
    generalize x / 2 ^ (8 * n - 8 * (k + 1)) = y
    generalize y / 256 % 256 ^ k = z
    omega
theorem val_beV {x n : Int} (hx : 0 ≤ x ∧ x ≤ 18446744073709551615) (hf : fitV x n) : valB (beV x n) = x := by
  obtain ⟨h1, h2, h3⟩ := hf
  obtain ⟨y, rfl⟩ := Int.eq_ofNat_of_zero_le hx.1
  obtain ⟨m, rfl⟩ := Int.eq_ofNat_of_zero_le (show 0 ≤ n by omega)
  unfold beV
  rw [Int.toNat_natCast, val_be (by omega) m (Nat.le_refl _), Nat.sub_self, Nat.pow_zero, Nat.div_one]
  congr 1
  apply Nat.mod_eq_of_lt
  rw [show (256 : Nat) = 2 ^ 8 by rfl, ← Nat.pow_mul]
  rcases h3 with h3 | h3
  · have : m = 8 := by omega
    subst this
    omega
  · rw [show (8 * (m : Int)) = ((8 * m : Nat) : Int) by omega, shr_nat (by omega)] at h3
    have h4 : y / 2 ^ (8 * m) = 0 := by omega
    exact (Nat.div_eq_zero_iff_lt (Nat.pow_pos (by omega))).1 h4
/-- What is read of the bytes of fields, one after another. -/
theorem encF_at {Fs : List FV} {i : Nat} {f : FV} (h : Fs[i]? = some f) : ((encF Fs).drop (encF (Fs.take i)).length).take f.n.toNat = beV f.x f.n := by
  have h1 : Fs = Fs.take i ++ (f :: Fs.drop (i + 1)) := by
    have := (List.getElem?_eq_some_iff.1 h)
    obtain ⟨hi, rfl⟩ := this
    rw [← List.drop_eq_getElem_cons hi, List.take_append_drop]
  have h2 : encF Fs = encF (Fs.take i) ++ (beV f.x f.n ++ encF (Fs.drop (i + 1))) := by
    conv => lhs; rw [h1]
    rw [encF_app]; rfl
  rw [h2, List.drop_left, List.take_left' (beV_len f.x f.n)]
theorem encF_room {Fs : List FV} {i : Nat} {f : FV} (h : Fs[i]? = some f) : (encF (Fs.take i)).length + f.n.toNat ≤ (encF Fs).length := by
  have := encF_at h
  have h2 := congrArg List.length this
  rw [beV_len, List.length_take, List.length_drop] at h2
  have h3 : (encF (Fs.take i)).length ≤ (encF Fs).length := by
    have h4 : encF Fs = encF (Fs.take i) ++ encF (Fs.drop i) := by rw [← encF_app, List.take_append_drop]
    rw [h4, List.length_append]; omega
  omega
end Go.Proofs.Ytdllgfkcakhoeaa
