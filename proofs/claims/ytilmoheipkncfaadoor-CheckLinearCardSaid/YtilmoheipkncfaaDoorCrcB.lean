/-
  CRC-32: what follows from linearity: flips, bursts, sums; sealed records.
-/
import Derived.Test.YtilmoheipkncfaaDoorCrc
import Derived.Test.YtilmoheipkncfaaDoorSrc
namespace Go.Proofs.YtilmoheipkncfaaDoor
set_option linter.unusedVariables false
set_option linter.unusedSimpArgs false
set_option linter.unusedVariables false
open Go Go.RowKit
theorem regV_nil (x : BitVec 32) : regV x [] = x := by unfold regV; rfl
theorem vI_zero : vI 0#32 = 0 := by unfold vI; rfl
theorem byteV_zero : byteV 0 = 0#32 := by unfold byteV; rfl
theorem crc_reg (s : BitVec 32) (B : List Int) : ~~~ regV (~~~ s) B = crcV s B := by unfold crcV; rfl
theorem crc_xor {s t : BitVec 32} {A B : List Int} : crcV s A ^^^ crcV t B = regV (~~~ s) A ^^^ regV (~~~ t) B := by
  unfold crcV
  apply BitVec.eq_of_getLsbD_eq
  intro i hi
  have hd : decide (i < 32) = true := decide_eq_true hi
  simp only [BitVec.getLsbD_xor, BitVec.getLsbD_not, hd, Bool.true_and]
  cases (regV (~~~ s) A).getLsbD i <;> cases (regV (~~~ t) B).getLsbD i <;> rfl
theorem nextV_xor (x y : BitVec 32) (a b : Int) : nextV (x ^^^ y) (xorI .u8 a b) = nextV x a ^^^ nextV y b := by
  rw [nextV_is, nextV_is, nextV_is, byteV_xor, xor4, shV_xor]
def zipX : List Int → List Int → List Int
  | a :: A, b :: B => xorI .u8 a b :: zipX A B
  | _, _ => []
theorem regV_xor : ∀ (A B : List Int) (x y : BitVec 32), A.length = B.length → regV (x ^^^ y) (zipX A B) = regV x A ^^^ regV y B
  | [], [], x, y, _ => by rw [show zipX [] [] = [] from rfl, regV_nil, regV_nil, regV_nil]
  | [], _ :: _, _, _, h => by simp at h
  | _ :: _, [], _, _, h => by simp at h
  | a :: A, b :: B, x, y, h => by
    rw [zipX, regV_cons, regV_cons, regV_cons, nextV_xor]
    exact regV_xor A B _ _ (by simpa using h)
theorem nextV_zero (x : BitVec 32) : nextV x 0 = shV x 8 := by rw [nextV_is, byteV_zero, BitVec.xor_zero]
theorem regV_zeros (x : BitVec 32) : ∀ n, regV x (List.replicate n 0) = shV x (8 * n)
  | 0 => by rw [List.replicate_zero, regV_nil, Nat.mul_zero, shV_none]
  | n + 1 => by rw [List.replicate_succ', regV_snoc, regV_zeros x n, nextV_zero, Nat.mul_succ, shV_add]
/-- A bit that is flipped in the byte behind A. -/
theorem regV_flip (x : BitVec 32) (A C : List Int) (b o : Int) : regV x (A ++ xorI .u8 b o :: C) = regV x (A ++ b :: C) ^^^ regV 0#32 (o :: List.replicate C.length 0) := by
  rw [regV_app, regV_app, regV_cons, regV_cons, regV_cons, regV_zeros]
  have h1 : nextV (regV x A) (xorI .u8 b o) = nextV (regV x A) b ^^^ nextV 0#32 o := by rw [← nextV_xor, BitVec.xor_zero]
  rw [h1]
  have h2 : ∀ (C : List Int) (y z : BitVec 32), regV (y ^^^ z) C = regV y C ^^^ shV z (8 * C.length) := by
    intro C
    induction C with
    | nil => intro y z; rw [regV_nil, regV_nil, List.length_nil, Nat.mul_zero, shV_none]
    | cons c C ih =>
      intro y z
      rw [regV_cons, regV_cons]
      have h3 : nextV (y ^^^ z) c = nextV y c ^^^ shV z 8 := by
        rw [nextV_is, nextV_is, BitVec.xor_assoc, BitVec.xor_comm z, ← BitVec.xor_assoc, shV_xor]
      rw [h3, ih, List.length_cons, ← shV_add]
      congr 2; omega
  exact h2 C _ _
theorem set_split {B : List Int} {i : Nat} {v : Int} (h : i < B.length) : B.set i v = B.take i ++ v :: B.drop (i + 1) := by
  rw [List.set_eq_take_append_cons_drop, if_pos h]
theorem self_split {B : List Int} {i : Nat} (h : i < B.length) : B = B.take i ++ B.getD i 0 :: B.drop (i + 1) := by
  have h2 : B.getD i 0 = B[i] := by simp [h]
  rw [h2, ← List.drop_eq_getElem_cons h, List.take_append_drop]
theorem regV_set (x : BitVec 32) {B : List Int} {i : Nat} (o : Int) (h : i < B.length) : regV x (B.set i (xorI .u8 (B.getD i 0) o)) = regV x B ^^^ regV 0#32 (o :: List.replicate (B.length - 1 - i) 0) := by
  have h1 := regV_flip x (B.take i) (B.drop (i + 1)) (B.getD i 0) o
  rw [← set_split h, ← self_split h, List.length_drop] at h1
  rw [h1, show B.length - (i + 1) = B.length - 1 - i by omega]
theorem one_down : ∀ {k : Nat}, k < 32 → shV (1#32 <<< k) k = 1#32 := by
  intro k hk
  rw [shV_low]
  · apply BitVec.eq_of_getLsbD_eq
    intro i hi
    rw [BitVec.getLsbD_ushiftRight, BitVec.getLsbD_shiftLeft]
    by_cases h : k + i < 32
    · have hd : decide (k + i < 32) = true := decide_eq_true h
      have hd2 : decide (k + i < k) = false := decide_eq_false (by omega)
      rw [hd, hd2, show k + i - k = i by omega]; simp
    · have hd : decide (k + i < 32) = false := decide_eq_false h
      rw [hd, BitVec.getLsbD_one]
      have : ¬ i = 0 := by omega
      simp [this]
  · intro i hi
    rw [BitVec.getLsbD_shiftLeft]
    have hd : decide (i < k) = true := decide_eq_true hi
    simp [hd]
/-- What a bit at a place of n bytes makes of the register. -/
theorem reg_bit {n i q : Nat} (hq : q < 8) (hi : i < n) : regV 0#32 (shlI .u8 1 (q : Int) :: List.replicate (n - 1 - i) 0) = shV 1#32 (8 * n - (8 * i + q)) := by
  rw [regV_cons, regV_zeros, nextV_is, byteV_one hq, BitVec.zero_xor, ← shV_add, show 8 + 8 * (n - 1 - i) = q + (8 * n - (8 * i + q)) by omega, shV_add, one_down (by omega)]
theorem reg_bit_ne {n i q : Nat} (hq : q < 8) (hi : i < n) : regV 0#32 (shlI .u8 1 (q : Int) :: List.replicate (n - 1 - i) 0) ≠ 0#32 := by
  rw [reg_bit hq hi]
  intro h
  exact absurd (shV_ne h) (by decide)
/-! ### Sealed records -/
def encB (s : BitVec 32) : List Int := [IntKind.u8.wrap (vI s), IntKind.u8.wrap (shrI .u32 (vI s) 8), IntKind.u8.wrap (shrI .u32 (vI s) 16), IntKind.u8.wrap (shrI .u32 (vI s) 24)]
theorem encB_len (s : BitVec 32) : (encB s).length = 4 := rfl
theorem wrap8_bd (x : Int) : 0 ≤ IntKind.u8.wrap x ∧ IntKind.u8.wrap x ≤ 255 := by
  simp [IntKind.wrap, IntKind.bits, IntKind.signed]; omega
theorem encB_bytes (s : BitVec 32) : Bytes (encB s) := fun x hx => by
  unfold encB at hx
  simp only [List.mem_cons, List.not_mem_nil, or_false] at hx
  rcases hx with rfl | rfl | rfl | rfl <;> exact wrap8_bd _
def sealB (M : List Int) : List Int := M ++ encB (crcV 0#32 M)
theorem sealB_len {M : List Int} {m : Nat} (h : M.length = m) : (sealB M).length = m + 4 := by
  unfold sealB; rw [List.length_append, encB_len, h]
theorem sealB_bytes {M : List Int} (h : Bytes M) : Bytes (sealB M) := h.app (encB_bytes _)
/-- One byte of a word: the rest moves down. -/
theorem step_byte (R X : BitVec 32) : shV (R ^^^ X) 8 = shV (R ^^^ ((X.setWidth 8).setWidth 32)) 8 ^^^ (X >>> 8) := by
  have key : X = (X.setWidth 8).setWidth 32 ^^^ (X ^^^ (X.setWidth 8).setWidth 32) := by
    rw [BitVec.xor_comm X, ← BitVec.xor_assoc, BitVec.xor_self, BitVec.zero_xor]
  have h1 : shV (X ^^^ (X.setWidth 8).setWidth 32) 8 = X >>> 8 := by
    rw [shV_low]
    · apply BitVec.eq_of_getLsbD_eq
      intro i hi
      simp only [BitVec.getLsbD_ushiftRight, BitVec.getLsbD_xor, BitVec.getLsbD_setWidth]
      have hd : decide (8 + i < 8) = false := decide_eq_false (by omega)
      simp [hd]
    · intro i hi
      have hd : decide (i < 8) = true := decide_eq_true hi
      have hd2 : decide (i < 32) = true := decide_eq_true (by omega)
      simp only [BitVec.getLsbD_xor, BitVec.getLsbD_setWidth, hd, hd2, Bool.true_and]
      cases X.getLsbD i <;> rfl
  calc shV (R ^^^ X) 8 = shV ((R ^^^ (X.setWidth 8).setWidth 32) ^^^ (X ^^^ (X.setWidth 8).setWidth 32)) 8 := by rw [BitVec.xor_assoc, ← key]
    _ = _ := by rw [shV_xor, h1]
theorem byteV_low0 (x : BitVec 32) : byteV (IntKind.u8.wrap (vI x)) = (x.setWidth 8).setWidth 32 := by
  rw [low_v]
  unfold byteV bI
  rw [BitVec.ofInt_natCast, BitVec.ofNat_toNat, BitVec.setWidth_eq]
theorem reg_enc (R X : BitVec 32) : regV R (encB X) = shV (R ^^^ X) 32 := by
  unfold encB
  rw [regV_cons, regV_cons, regV_cons, regV_cons, regV_nil, nextV_is, nextV_is, nextV_is, nextV_is]
  rw [byteV_low0, show (8 : Int) = ((8 : Nat) : Int) from rfl, byteV_low X 8 (by omega), show (16 : Int) = ((16 : Nat) : Int) from rfl, byteV_low X 16 (by omega), show (24 : Int) = ((24 : Nat) : Int) from rfl, byteV_low X 24 (by omega)]
  have h0 : X >>> 32 = 0#32 := by
    apply BitVec.eq_of_getLsbD_eq
    intro i hi
    rw [BitVec.getLsbD_ushiftRight, BitVec.getLsbD_of_ge _ _ (by omega)]; simp
  have e0 : shV (R ^^^ X) 32 = shV (shV (shV (shV (R ^^^ X) 8) 8) 8) 8 := by
    rw [← shV_add, ← shV_add, ← shV_add]
  have e1 : (X >>> 8) >>> 8 = X >>> 16 := by rw [← BitVec.shiftRight_add]
  have e2 : (X >>> 16) >>> 8 = X >>> 24 := by rw [← BitVec.shiftRight_add]
  have e3 : (X >>> 24) >>> 8 = X >>> 32 := by rw [← BitVec.shiftRight_add]
  rw [e0, step_byte R X, step_byte _ (X >>> 8), e1, step_byte _ (X >>> 16), e2, step_byte _ (X >>> 24), e3, h0, BitVec.xor_zero]
/-- The register behind a sealed record is always the same. -/
theorem reg_seal (M : List Int) : regV (~~~ 0#32) (sealB M) = shV (BitVec.allOnes 32) 32 := by
  unfold sealB
  rw [regV_app, reg_enc]
  congr 1
  unfold crcV
  apply BitVec.eq_of_getLsbD_eq
  intro i hi
  have hd : decide (i < 32) = true := decide_eq_true hi
  simp only [BitVec.getLsbD_xor, BitVec.getLsbD_not, hd, Bool.true_and, BitVec.getLsbD_allOnes]
  cases (regV (~~~ 0#32) M).getLsbD i <;> rfl
/-- The lowest bits of a word. -/
def maskV (c : BitVec 32) : Nat → BitVec 32
  | 0 => 0#32
  | k + 1 => maskV c k ^^^ (if c.getLsbD k then 1#32 <<< k else 0#32)
theorem maskV_get (c : BitVec 32) : ∀ k, k ≤ 32 → ∀ i, i < 32 → (maskV c k).getLsbD i = (decide (i < k) && c.getLsbD i)
  | 0, _, i, _ => by simp [maskV]
  | k + 1, hk, i, hi => by
    rw [maskV, BitVec.getLsbD_xor, maskV_get c k (by omega) i hi]
    have hd : decide (i < 32) = true := decide_eq_true hi
    by_cases e : i = k
    · subst e
      cases h : c.getLsbD i with
      | true => simp [BitVec.getLsbD_shiftLeft, BitVec.getLsbD_one, hd]
      | false => simp
    · have h2 : (if c.getLsbD k then 1#32 <<< k else 0#32).getLsbD i = false := by
        split
        · rw [BitVec.getLsbD_shiftLeft, BitVec.getLsbD_one]
          by_cases hl : i < k
          · simp [hl]
          · have : ¬ i - k = 0 := by omega
            simp [this]
        · simp
      rw [h2, Bool.xor_false]
      congr 1
      exact decide_eq_decide.2 (by omega)
theorem maskV_all (c : BitVec 32) : maskV c 32 = c := by
  apply BitVec.eq_of_getLsbD_eq
  intro i hi
  rw [maskV_get c 32 (Nat.le_refl _) i hi, decide_eq_true hi, Bool.true_and]
theorem bit_is {c : BitVec 32} {k : Nat} (hk : k ≤ 32) : andI .u32 (shrI .u32 (vI c) (k : Int)) 1 = if c.getLsbD k then 1 else 0 := by
  rw [shrI_v c k hk, and1_v, BitVec.getLsbD_ushiftRight, Nat.add_zero]
/-- Changed bits within 32 change the register. -/
theorem burst_step {R0 : BitVec 32} {B : List Int} {c : BitVec 32} {k from_ L : Nat} (hB : B.length = L) (hk : k < 32) (hL : from_ + 32 ≤ 8 * L) (hc : c.getLsbD k = true) (h : regV (~~~ 0#32) B = R0 ^^^ shV (maskV c k) (8 * L - from_)) :
    regV (~~~ 0#32) (B.set ((from_ + k) / 8) (xorI .u8 (B.getD ((from_ + k) / 8) 0) (shlI .u8 1 (((from_ + k) % 8 : Nat) : Int)))) = R0 ^^^ shV (maskV c (k + 1)) (8 * L - from_) := by
  rw [regV_set _ _ (by omega), hB, reg_bit (Nat.mod_lt _ (by omega)) (by omega), h, maskV, hc, if_pos rfl, shV_xor, BitVec.xor_assoc]
  congr 2
  rw [show 8 * L - from_ = k + (8 * L - (8 * ((from_ + k) / 8) + (from_ + k) % 8)) by omega, shV_add, one_down hk]
theorem mask_no {c : BitVec 32} {k : Nat} (hc : c.getLsbD k = false) : maskV c (k + 1) = maskV c k := by
  rw [maskV, hc]; simp
theorem burst_no {M B : List Int} {c : BitVec 32} {from_ L : Nat} (hc : c ≠ 0#32) (h : regV (~~~ 0#32) B = regV (~~~ 0#32) (sealB M) ^^^ shV (maskV c 32) (8 * L - from_)) (M' : List Int) : B ≠ sealB M' := by
  intro he
  rw [he, reg_seal, reg_seal, maskV_all] at h
  have h2 : shV c (8 * L - from_) = 0#32 := by
    have h3 : shV (BitVec.allOnes 32) 32 ^^^ shV (BitVec.allOnes 32) 32 = shV (BitVec.allOnes 32) 32 ^^^ (shV (BitVec.allOnes 32) 32 ^^^ shV c (8 * L - from_)) := congrArg (fun z => shV (BitVec.allOnes 32) 32 ^^^ z) h
    rw [← BitVec.xor_assoc, BitVec.xor_self, BitVec.zero_xor] at h3
    exact h3.symm
  exact hc (shV_ne h2)
theorem crc3 {A B C X : List Int} (hX : X = zipX (zipX A B) C) (h1 : A.length = B.length) (h2 : A.length = C.length) : crcV 0#32 X = crcV 0#32 A ^^^ crcV 0#32 B ^^^ crcV 0#32 C := by
  have hz : ∀ (A B : List Int), A.length = B.length → (zipX A B).length = A.length := by
    intro A
    induction A with
    | nil => intro B _; cases B <;> rfl
    | cons a A ih =>
      intro B h
      cases B with
      | nil => simp at h
      | cons b B => simp only [zipX, List.length_cons]; rw [ih B (by simpa using h)]
  have e1 := regV_xor A B (~~~ 0#32) 0#32 h1
  have e2 := regV_xor (zipX A B) C (~~~ 0#32) (~~~ 0#32) ((hz A B h1).trans h2)
  have e3 := regV_xor (zipX A B) C (~~~ 0#32 ^^^ ~~~ 0#32) (~~~ 0#32) ((hz A B h1).trans h2)
  have e4 := regV_xor A B (~~~ 0#32) (~~~ 0#32) h1
  rw [e4, ← hX] at e3
  rw [BitVec.xor_self, BitVec.zero_xor] at e3
  unfold crcV
  rw [e3]
  apply BitVec.eq_of_getLsbD_eq
  intro i hi
  have hd : decide (i < 32) = true := decide_eq_true hi
  simp only [BitVec.getLsbD_xor, BitVec.getLsbD_not, hd, Bool.true_and]
  cases (regV (~~~ 0#32) A).getLsbD i <;> cases (regV (~~~ 0#32) B).getLsbD i <;> cases (regV (~~~ 0#32) C).getLsbD i <;> rfl
attribute [irreducible] maskV zipX
end Go.Proofs.YtilmoheipkncfaaDoor
