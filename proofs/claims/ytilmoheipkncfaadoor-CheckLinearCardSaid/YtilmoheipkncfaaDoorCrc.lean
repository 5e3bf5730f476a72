/-
  CRC-32 over words of 32 bits: the step by one bit, the table's way, and what follows from linearity.
-/
import Derived.Test.YtilmoheipkncfaaDoorRul
namespace Go.Proofs.YtilmoheipkncfaaDoor
set_option linter.unusedVariables false
set_option linter.unusedSimpArgs false
open Go Go.RowKit
def vI (x : BitVec 32) : Int := (x.toNat : Int)
def bI (c : BitVec 8) : Int := (c.toNat : Int)
theorem vI_nonneg (x : BitVec 32) : 0 ≤ vI x := Int.natCast_nonneg _
theorem vI_lt (x : BitVec 32) : vI x < 4294967296 := by
  have := x.isLt
  unfold vI; omega
theorem vI_inj {x y : BitVec 32} : vI x = vI y ↔ x = y := by
  unfold vI
  constructor
  · intro h; exact BitVec.eq_of_toNat_eq (by omega)
  · intro h; rw [h]
theorem wrap32 (x : BitVec 32) : IntKind.u32.wrap (x.toNat : Int) = (x.toNat : Int) := by
  have := x.isLt
  simp [IntKind.wrap, IntKind.bits, IntKind.signed]; omega
theorem wrap8 (x : BitVec 8) : IntKind.u8.wrap (x.toNat : Int) = (x.toNat : Int) := by
  have := x.isLt
  simp [IntKind.wrap, IntKind.bits, IntKind.signed]; omega
theorem xorI_v (x y : BitVec 32) : xorI .u32 (vI x) (vI y) = vI (x ^^^ y) := by
  unfold xorI vI
  simp only [BitVec.ofInt_natCast, IntKind.bits, BitVec.ofNat_toNat, BitVec.setWidth_eq]
  exact wrap32 _
theorem xorI_b (x : BitVec 8) (b : Int) : xorI .u8 (bI x) b = bI (x ^^^ BitVec.ofInt 8 b) := by
  unfold xorI bI
  simp only [BitVec.ofInt_natCast, IntKind.bits, BitVec.ofNat_toNat, BitVec.setWidth_eq]
  exact wrap8 _
theorem shrI_v (x : BitVec 32) (n : Nat) (h : n ≤ 32) : shrI .u32 (vI x) n = vI (x >>> n) := by
  unfold shrI vI
  rw [show min (n : Int).toNat IntKind.u32.bits = n by simp [IntKind.bits]; omega]
  rw [BitVec.toNat_ushiftRight, Nat.shiftRight_eq_div_pow, Int.fdiv_eq_ediv_of_nonneg _ (by exact Int.le_of_lt (Int.pow_pos (by decide)))]
  simp
theorem cpl_v (x : BitVec 32) : cplI .u32 (vI x) = vI (~~~x) := by
  have h := xorI_v (BitVec.allOnes 32) x
  rw [BitVec.allOnes_xor] at h
  unfold cplI
  exact h
theorem and1_v (x : BitVec 32) : andI .u32 (vI x) 1 = if x.getLsbD 0 then 1 else 0 := by
  unfold andI vI
  simp only [BitVec.ofInt_natCast, IntKind.bits, BitVec.ofNat_toNat, BitVec.setWidth_eq]
  refine (wrap32 (x &&& 1#32)).trans ?_
  have : (x &&& 1#32).toNat = x.toNat % 2 := by
    rw [BitVec.toNat_and, show (1#32).toNat = 1 from rfl, Nat.and_one_is_mod]
  rw [this, BitVec.getLsbD, Nat.testBit_zero]
  rcases Nat.mod_two_eq_zero_or_one x.toNat with h | h <;> simp [h]
theorem low_v (x : BitVec 32) : IntKind.u8.wrap (vI x) = bI (x.setWidth 8) := by
  unfold vI bI
  simp [IntKind.wrap, IntKind.bits, IntKind.signed]
def stepV (x : BitVec 32) : BitVec 32 := (x >>> 1) ^^^ (if x.getLsbD 0 then 0xEDB88320#32 else 0#32)
def shV (x : BitVec 32) : Nat → BitVec 32
  | 0 => x
  | k + 1 => stepV (shV x k)
def byteV (b : Int) : BitVec 32 := (BitVec.ofInt 8 b).setWidth 32
def nextV (x : BitVec 32) (b : Int) : BitVec 32 := shV (x ^^^ byteV b) 8
def regV (x : BitVec 32) (B : List Int) : BitVec 32 := B.foldl nextV x
def crcV (s : BitVec 32) (B : List Int) : BitVec 32 := ~~~ regV (~~~ s) B
theorem xor4 (a b c d : BitVec 32) : (a ^^^ b) ^^^ (c ^^^ d) = (a ^^^ c) ^^^ (b ^^^ d) := by
  rw [BitVec.xor_assoc, BitVec.xor_assoc, ← BitVec.xor_assoc b, BitVec.xor_comm b c, BitVec.xor_assoc c]
theorem stepV_xor (x y : BitVec 32) : stepV (x ^^^ y) = stepV x ^^^ stepV y := by
  unfold stepV
  rw [BitVec.ushiftRight_xor_distrib, BitVec.getLsbD_xor, xor4]
  congr 1
  cases x.getLsbD 0 <;> cases y.getLsbD 0 <;> simp
theorem stepV_zero : stepV 0#32 = 0#32 := by decide
theorem shV_xor (x y : BitVec 32) : ∀ k, shV (x ^^^ y) k = shV x k ^^^ shV y k
  | 0 => rfl
  | k + 1 => by rw [shV, shV, shV, shV_xor x y k, stepV_xor]
theorem shV_zero : ∀ k, shV 0#32 k = 0#32
  | 0 => rfl
  | k + 1 => by rw [shV, shV_zero k, stepV_zero]
theorem shV_add (x : BitVec 32) (j : Nat) : ∀ k, shV x (j + k) = shV (shV x j) k
  | 0 => rfl
  | k + 1 => by rw [← Nat.add_assoc, shV, shV, shV_add x j k]
/-- A step back: only 0 becomes 0. -/
theorem stepV_ne {x : BitVec 32} (h : stepV x = 0#32) : x = 0#32 := by
  unfold stepV at h
  cases h0 : x.getLsbD 0 with
  | true =>
    rw [h0] at h
    have := congrArg (fun z : BitVec 32 => z.getLsbD 31) h
    simp at this
  | false =>
    rw [h0] at h
    simp only [Bool.false_eq_true, if_false, BitVec.xor_zero] at h
    apply BitVec.eq_of_getLsbD_eq
    intro i hi
    cases i with
    | zero => simpa using h0
    | succ i =>
      have := congrArg (fun z : BitVec 32 => z.getLsbD i) h
      simp only [BitVec.getLsbD_ushiftRight, BitVec.getLsbD_zero] at this
      rw [Nat.add_comm, this, BitVec.getLsbD_zero]
theorem shV_ne {x : BitVec 32} : ∀ {k : Nat}, shV x k = 0#32 → x = 0#32
  | 0, h => h
  | k + 1, h => shV_ne (k := k) (stepV_ne h)
/-- Steps of a word whose lowest bits are 0 are shifts. -/
theorem shV_low {x : BitVec 32} : ∀ {k : Nat}, (∀ i, i < k → x.getLsbD i = false) → shV x k = x >>> k
  | 0, _ => by simp [shV]
  | k + 1, h => by
    rw [shV, shV_low (k := k) (fun i hi => h i (by omega)), stepV]
    rw [BitVec.getLsbD_ushiftRight, Nat.add_zero, h k (by omega)]
    simp [← BitVec.shiftRight_add]
def LOWT : List Int := [0x00000000, 0x77073096, 0xee0e612c, 0x990951ba, 0x076dc419, 0x706af48f, 0xe963a535, 0x9e6495a3, 0x0edb8832, 0x79dcb8a4, 0xe0d5e91e, 0x97d2d988, 0x09b64c2b, 0x7eb17cbd, 0xe7b82d07, 0x90bf1d91]
def HIGHT : List Int := [0x00000000, 0x1db71064, 0x3b6e20c8, 0x26d930ac, 0x76dc4190, 0x6b6b51f4, 0x4db26158, 0x5005713c, 0xedb88320, 0xf00f9344, 0xd6d6a3e8, 0xcb61b38c, 0x9b64c2b0, 0x86d3d2d4, 0xa00ae278, 0xbdbdf21c]
theorem tab_all : ∀ k : Fin 256, xorI .u32 (LOWT.getD (andI .u8 (bI (BitVec.ofNat 8 k.val)) 15).toNat 0) (HIGHT.getD (shrI .u8 (bI (BitVec.ofNat 8 k.val)) 4).toNat 0) = vI (shV ((BitVec.ofNat 8 k.val).setWidth 32) 8) := by decide +kernel
theorem idx_all : ∀ k : Fin 256, (0 ≤ andI .u8 (bI (BitVec.ofNat 8 k.val)) 15 ∧ andI .u8 (bI (BitVec.ofNat 8 k.val)) 15 < 16) ∧ 0 ≤ shrI .u8 (bI (BitVec.ofNat 8 k.val)) 4 ∧ shrI .u8 (bI (BitVec.ofNat 8 k.val)) 4 < 16 := by decide +kernel
theorem tab_is (c : BitVec 8) : xorI .u32 (LOWT.getD (andI .u8 (bI c) 15).toNat 0) (HIGHT.getD (shrI .u8 (bI c) 4).toNat 0) = vI (shV (c.setWidth 32) 8) := by
  have h := tab_all ⟨c.toNat, c.isLt⟩
  simpa only [BitVec.ofNat_toNat, BitVec.setWidth_eq] using h
theorem idx_is (c : BitVec 8) : (0 ≤ andI .u8 (bI c) 15 ∧ andI .u8 (bI c) 15 < 16) ∧ 0 ≤ shrI .u8 (bI c) 4 ∧ shrI .u8 (bI c) 4 < 16 := by
  have h := idx_all ⟨c.toNat, c.isLt⟩
  simpa only [BitVec.ofNat_toNat, BitVec.setWidth_eq] using h
theorem next_split (x : BitVec 32) (b : Int) : nextV x b = (x >>> 8) ^^^ shV ((x.setWidth 8 ^^^ BitVec.ofInt 8 b).setWidth 32) 8 := by
  unfold nextV
  have key : x ^^^ byteV b = ((x ^^^ byteV b) ^^^ (x.setWidth 8 ^^^ BitVec.ofInt 8 b).setWidth 32) ^^^ (x.setWidth 8 ^^^ BitVec.ofInt 8 b).setWidth 32 := by
    rw [BitVec.xor_assoc (x ^^^ byteV b), BitVec.xor_self, BitVec.xor_zero]
  rw [key, shV_xor]
  congr 1
  rw [shV_low]
  · apply BitVec.eq_of_getLsbD_eq
    intro i hi
    simp only [BitVec.getLsbD_ushiftRight, BitVec.getLsbD_xor, byteV, BitVec.getLsbD_setWidth]
    have h8 : (BitVec.ofInt 8 b).getLsbD (8 + i) = false := BitVec.getLsbD_of_ge _ _ (by omega)
    have hd : decide (8 + i < 8) = false := decide_eq_false (by omega)
    simp [h8, hd]
  · intro i hi
    have hd : decide (i < 8) = true := decide_eq_true hi
    have hd2 : decide (i < 32) = true := decide_eq_true (by omega)
    simp only [BitVec.getLsbD_xor, byteV, BitVec.getLsbD_setWidth, hd, hd2, Bool.true_and]
    cases x.getLsbD i <;> cases (BitVec.ofInt 8 b).getLsbD i <;> rfl
/-- The table's way is the bits' way. -/
theorem next_tab (x : BitVec 32) (b : Int) : xorI .u32 (shrI .u32 (vI x) 8) (xorI .u32 (LOWT.getD (andI .u8 (xorI .u8 (IntKind.u8.wrap (vI x)) b) 15).toNat 0) (HIGHT.getD (shrI .u8 (xorI .u8 (IntKind.u8.wrap (vI x)) b) 4).toNat 0)) = vI (nextV x b) := by
  rw [low_v, xorI_b, tab_is, show (8 : Int) = ((8 : Nat) : Int) from rfl, shrI_v x 8 (by omega), xorI_v, next_split]
theorem idx_ok (x : BitVec 32) (b : Int) : (0 ≤ andI .u8 (xorI .u8 (IntKind.u8.wrap (vI x)) b) 15 ∧ andI .u8 (xorI .u8 (IntKind.u8.wrap (vI x)) b) 15 < 16) ∧ 0 ≤ shrI .u8 (xorI .u8 (IntKind.u8.wrap (vI x)) b) 4 ∧ shrI .u8 (xorI .u8 (IntKind.u8.wrap (vI x)) b) 4 < 16 := by
  rw [low_v, xorI_b]; exact idx_is _
theorem byteV_vI {b : Int} (h : 0 ≤ b ∧ b ≤ 255) : vI (byteV b) = b := by
  unfold vI byteV
  rw [BitVec.toNat_setWidth, BitVec.toNat_ofInt]
  have : (b % ((2 ^ 8 : Nat) : Int)).toNat = b.toNat := by
    rw [Int.emod_eq_of_lt h.1 (by have := h.2; omega)]
  rw [this, Nat.mod_eq_of_lt (by omega)]
  omega
theorem xor_byte (x : BitVec 32) {b : Int} (h : 0 ≤ b ∧ b ≤ 255) : xorI .u32 (vI x) b = vI (x ^^^ byteV b) := by
  have := xorI_v x (byteV b)
  rw [byteV_vI h] at this
  exact this
theorem step_yes {x : BitVec 32} (h : andI .u32 (vI x) 1 = 1) : xorI .u32 (shrI .u32 (vI x) 1) 3988292384 = vI (stepV x) := by
  rw [and1_v] at h
  have h0 : x.getLsbD 0 = true := by
    cases h0 : x.getLsbD 0 with
    | true => rfl
    | false => rw [h0] at h; simp at h
  rw [show (1 : Int) = ((1 : Nat) : Int) from rfl, shrI_v x 1 (by omega), show (3988292384 : Int) = vI 0xEDB88320#32 from rfl, xorI_v]
  unfold stepV
  rw [h0]; rfl
theorem step_no {x : BitVec 32} (h : ¬ andI .u32 (vI x) 1 = 1) : shrI .u32 (vI x) 1 = vI (stepV x) := by
  rw [and1_v] at h
  have h0 : x.getLsbD 0 = false := by
    cases h0 : x.getLsbD 0 with
    | true => rw [h0] at h; simp at h
    | false => rfl
  rw [show (1 : Int) = ((1 : Nat) : Int) from rfl, shrI_v x 1 (by omega)]
  unfold stepV
  rw [h0]; simp
theorem regV_app (x : BitVec 32) (A B : List Int) : regV x (A ++ B) = regV (regV x A) B := by
  unfold regV; rw [List.foldl_append]
theorem regV_snoc (x : BitVec 32) (A : List Int) (b : Int) : regV x (A ++ [b]) = nextV (regV x A) b := by
  rw [regV_app]; rfl
theorem crcV_app (s : BitVec 32) (A B : List Int) : crcV s (A ++ B) = crcV (crcV s A) B := by
  unfold crcV
  rw [regV_app, BitVec.not_not]
theorem crcV_nil (s : BitVec 32) : crcV s [] = s := by
  unfold crcV regV
  simp
theorem shV_succ (x : BitVec 32) (k : Nat) : shV x (k + 1) = stepV (shV x k) := rfl
theorem shV_none (x : BitVec 32) : shV x 0 = x := rfl
theorem nextV_is (x : BitVec 32) (b : Int) : nextV x b = shV (x ^^^ byteV b) 8 := rfl
theorem regV_cons (x : BitVec 32) (b : Int) (B : List Int) : regV x (b :: B) = regV (nextV x b) B := rfl
theorem byteV_xor (a b : Int) : byteV (xorI .u8 a b) = byteV a ^^^ byteV b := by
  unfold byteV
  have h : BitVec.ofInt 8 (xorI .u8 a b) = BitVec.ofInt 8 a ^^^ BitVec.ofInt 8 b := by
    unfold xorI
    have h2 := wrap8 (BitVec.ofInt 8 a ^^^ BitVec.ofInt 8 b)
    refine (congrArg (BitVec.ofInt 8) h2).trans ?_
    rw [BitVec.ofInt_natCast, BitVec.ofNat_toNat, BitVec.setWidth_eq]
  rw [h, BitVec.setWidth_xor]
theorem byteV_one {k : Nat} (h : k < 8) : byteV (shlI .u8 1 (k : Int)) = 1#32 <<< k := by
  have : ∀ k : Fin 8, byteV (shlI .u8 1 (k.val : Int)) = 1#32 <<< k.val := by decide +kernel
  exact this ⟨k, h⟩
theorem byteV_low (x : BitVec 32) (n : Nat) (h : n ≤ 32) : byteV (IntKind.u8.wrap (shrI .u32 (vI x) n)) = ((x >>> n).setWidth 8).setWidth 32 := by
  rw [shrI_v x n h, low_v]
  unfold byteV bI
  rw [BitVec.ofInt_natCast, BitVec.ofNat_toNat, BitVec.setWidth_eq]
attribute [irreducible] vI bI byteV nextV regV crcV stepV shV
end Go.Proofs.YtilmoheipkncfaaDoor
