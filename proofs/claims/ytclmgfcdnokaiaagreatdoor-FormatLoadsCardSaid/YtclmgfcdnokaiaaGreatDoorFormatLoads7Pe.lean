/-
 A region that draws its order, of which the last operation is a store: makings, appending, the store.
-/
import Derived.Test.YtclmgfcdnokaiaaGreatDoorFormatLoads7Pd
import Derived.Test.YtclmgfcdnokaiaaGreatDoorFormatLoads7Pa
import Derived.Test.YtclmgfcdnokaiaaGreatDoorFormatLoads7Pb
/-
 The encoding of deltas: what is accepted is the encoding of what was read.
-/
namespace Go.Proofs.YtclmgfcdnokaiaaGreatDoor
set_option maxRecDepth 100000
set_option maxHeartbeats 2000000
open Go.Value (int slice)
set_option linter.unusedVariables false
set_option linter.unusedSimpArgs false
open Go Go.RowKit
theorem u8wrap (x : Int) : IntKind.u8.wrap x = x % 256 := by simp [IntKind.wrap, IntKind.signed, IntKind.bits]
theorem beV_byt (x n : Int) : Bytes (beV x n) := fun y hy => by
 unfold beV beP at hy
 obtain ⟨i, _, rfl⟩ := List.mem_map.1 hy
 rw [u8wrap]
 have h := Int.emod_nonneg (shrI .u64 x (8 * n - 8 * (i : Int) - 8)) (show (256 : Int) ≠ 0 by decide)
 have h2 := Int.emod_lt_of_pos (shrI .u64 x (8 * n - 8 * (i : Int) - 8)) (show (0 : Int) < 256 by decide)
 omega
theorem valB_natR' : ∀ {B : List Int}, Bytes B → ∃ v : Nat, valB B.reverse = (v : Int) ∧ v < 256 ^ B.length
 | [], _ => ⟨0, rfl, by simp⟩
 | b :: l, h => by
  obtain ⟨v, h1, h2⟩ := valB_natR' (B := l) (fun x hx => h x (List.mem_cons_of_mem _ hx))
  have hb := h b List.mem_cons_self
  obtain ⟨c, rfl⟩ := Int.eq_ofNat_of_zero_le hb.1
  refine ⟨256 * v + c, by rw [List.reverse_cons, valB_snoc, h1]; omega, ?_⟩
  rw [List.length_cons, Nat.pow_succ]
  omega
theorem valB_nat' {B : List Int} (h : Bytes B) : ∃ v : Nat, valB B = (v : Int) ∧ v < 256 ^ B.length := by
 have := valB_natR' (B := B.reverse) (fun x hx => h x (List.mem_reverse.1 hx))
 rw [List.reverse_reverse, List.length_reverse] at this; exact this
theorem valB_injR : ∀ {X Y : List Int}, Bytes X → Bytes Y → X.length = Y.length → valB X.reverse = valB Y.reverse → X = Y
 | [], [], _, _, _, _ => rfl
 | [], y :: Y, _, _, h, _ => by simp at h
 | x :: X, [], _, _, h, _ => by simp at h
 | x :: X, y :: Y, hX, hY, hl, h => by
  rw [List.reverse_cons, List.reverse_cons, valB_snoc, valB_snoc] at h
  have hx := hX x List.mem_cons_self
  have hy := hY y List.mem_cons_self
  have h1 : x = y := by omega
  subst h1
  rw [valB_injR (X := X) (Y := Y) (fun z hz => hX z (List.mem_cons_of_mem _ hz)) (fun z hz => hY z (List.mem_cons_of_mem _ hz)) (by simpa using hl) (by omega)]
theorem valB_inj {X Y : List Int} (hX : Bytes X) (hY : Bytes Y) (hl : X.length = Y.length) (h : valB X = valB Y) : X = Y := by
 have := valB_injR (X := X.reverse) (Y := Y.reverse) (fun z hz => hX z (List.mem_reverse.1 hz)) (fun z hz => hY z (List.mem_reverse.1 hz)) (by simpa using hl) (by simpa using h)
 exact List.reverse_inj.1 this
theorem beV_valB {X : List Int} {n : Nat} (hX : Bytes X) (hl : X.length = n) (h1 : 1 ≤ n) (h8 : n ≤ 8) : beV (valB X) (n : Int) = X := by
 obtain ⟨v, h2, h3⟩ := valB_nat' hX
 rw [hl] at h3
 have h4 : (256 : Nat) ^ n = 2 ^ (8 * n) := by rw [show (256 : Nat) = 2 ^ 8 by rfl, ← Nat.pow_mul]
 have h5 : (256 : Nat) ^ n ≤ 256 ^ 8 := Nat.pow_le_pow_right (by decide) h8
 have h6 : (256 : Nat) ^ 8 = 18446744073709551616 := by decide
 refine valB_inj (beV_byt _ _) hX (by rw [beV_len, hl]; omega) ?_
 refine val_beV ⟨by omega, by omega⟩ ⟨by omega, by omega, .inr ?_⟩
 rw [h2, show (8 * (n : Int)) = ((8 * n : Nat) : Int) by omega, shr_nat (by omega), Nat.div_eq_of_lt (by omega)]; rfl
theorem take_step (B : List Int) (k n : Nat) : B.take (k + n) = B.take k ++ (B.drop k).take n := List.take_add
section
variable {B : List Int} {s : RS} {n : Nat}
theorem seg_len (h : s.k + n ≤ B.length) : ((B.drop s.k).take n).length = n := by rw [List.length_take, List.length_drop]; omega
theorem rUint_back (h : (rUint B s n).2.co = 0) : s.co = 0 ∧ s.k + n ≤ B.length ∧ rUint B s n = (valB ((B.drop s.k).take n), ⟨s.k + n, 0, s.po⟩) := by
 unfold rUint at h ⊢
 by_cases h1 : s.co = 0
 ·rw [if_pos h1] at h ⊢
  by_cases h2 : B.length < s.k + n
  ·rw [if_pos h2] at h; exact absurd h (eight _ _)
  ·rw [if_neg h2]; exact ⟨h1, by omega, rfl⟩
 ·rw [if_neg h1] at h; exact absurd h h1
theorem rBytes_back (h : (rBytes B s n).2.co = 0) : s.co = 0 ∧ s.k + n ≤ B.length ∧ rBytes B s n = ((B.drop s.k).take n, ⟨s.k + n, 0, s.po⟩) := by
 unfold rBytes at h ⊢
 by_cases h1 : s.co = 0
 ·rw [if_pos h1] at h ⊢
  by_cases h2 : B.length < s.k + n
  ·rw [if_pos h2] at h; exact absurd h (eight _ _)
  ·rw [if_neg h2]; exact ⟨h1, by omega, rfl⟩
 ·rw [if_neg h1] at h; exact absurd h h1
theorem rFail_back {c p : Int} (hc : c ≠ 0) (h : (rFail s c p).co = 0) : False := by
 unfold rFail at h
 by_cases h1 : s.co = 0
 ·rw [if_pos ⟨h1, hc⟩] at h; exact hc h
 ·rw [if_neg (fun x => h1 x.1)] at h; exact h1 h
theorem rLen_back (hB : Bytes B) (h : (rLen B s).2.co = 0) : s.co = 0 ∧ s.k + 8 ≤ B.length ∧ rLen B s = (valB ((B.drop s.k).take 8), ⟨s.k + 8, 0, s.po⟩) ∧ inR (valB ((B.drop s.k).take 8)) := by
 unfold rLen at h ⊢
 by_cases h1 : 4611686018427387903 < (rUint B s 8).1
 ·rw [if_pos h1] at h; exact (rFail_back (by decide) h).elim
 ·rw [if_neg h1] at h ⊢
  obtain ⟨h2, h3, h4⟩ := rUint_back h
  refine ⟨h2, h3, h4, ?_⟩
  rw [h4] at h1
  obtain ⟨v, h5, _⟩ := valB_nat' ((hB.drop s.k).take 8)
  dsimp only at h1
  unfold inR; omega
theorem kindF_back {kk : Int} {a : Nat} (h : (kindF s kk a).co = 0) : s.co = 0 ∧ (kk = 1 ∨ kk = 2) ∧ kindF s kk a = s := by
 unfold kindF at h ⊢
 by_cases h1 : s.co = 0 ∧ kk ≠ 1 ∧ kk ≠ 2
 ·rw [if_pos h1] at h; exact (rFail_back (by decide) h).elim
 ·rw [if_neg h1] at h ⊢
  refine ⟨h, ?_, rfl⟩
  by_cases h2 : kk = 1
  ·exact .inl h2
  ·exact .inr (Classical.byContradiction fun h3 => h1 ⟨h, h2, h3⟩)
theorem versF_back {v : Int} (h : (versF s v).co = 0) : s.co = 0 ∧ v = 1 ∧ versF s v = s := by
 unfold versF at h ⊢
 by_cases h1 : s.co = 0 ∧ v ≠ 1
 ·rw [if_pos h1] at h; exact (rFail_back (by decide) h).elim
 ·rw [if_neg h1] at h ⊢
  exact ⟨h, Classical.byContradiction fun h3 => h1 ⟨h, h3⟩, rfl⟩
theorem extraF_back (h : (extraF B s).co = 0) : s.co = 0 ∧ B.length ≤ s.k ∧ extraF B s = s := by
 unfold extraF at h ⊢
 by_cases h1 : s.co = 0 ∧ s.k < B.length
 ·rw [if_pos h1] at h; exact (rFail_back (by decide) h).elim
 ·rw [if_neg h1] at h ⊢
  exact ⟨h, Nat.le_of_not_lt fun h3 => h1 ⟨h, h3⟩, rfl⟩
theorem rExp_back {D : List Int} {code : Int} (hc : code ≠ 0) (h : (rExp B s D code).2.co = 0) : s.co = 0 ∧ (B.drop s.k).take D.length = D ∧ rExp B s D code = (true, ⟨s.k + D.length, 0, s.po⟩) := by
 unfold rExp at h ⊢
 by_cases h1 : s.co = 0
 ·rw [if_pos h1] at h ⊢
  by_cases h2 : (B.drop s.k).take D.length = D
  ·rw [if_pos h2]; exact ⟨h1, h2, rfl⟩
  ·rw [if_neg h2] at h
   by_cases h3 : D.take (B.length - s.k) = B.drop s.k
   ·rw [if_pos h3] at h; exact absurd h (eight _ _)
   ·rw [if_neg h3] at h; exact (rFail_back hc h).elim
 ·rw [if_neg h1] at h; exact absurd h h1
theorem rCmd_back (hB : Bytes B) (h : (rCmd B s).2.co = 0) : s.co = 0 ∧ okC (rCmd B s).1 ∧ (rCmd B s).1.B.length ≤ B.length ∧ Bytes (rCmd B s).1.B ∧ (rCmd B s).2.k ≤ B.length ∧ (rCmd B s).2.po = s.po ∧ B.take (rCmd B s).2.k = B.take s.k ++ encC (rCmd B s).1 := by
 unfold rCmd at h ⊢
 dsimp only at h ⊢
 by_cases hk : (rUint B s 1).1 = 1
 ·rw [if_pos hk] at h ⊢
  dsimp only at h ⊢
  obtain ⟨c1, l1, e1, i1⟩ := rLen_back hB h
  obtain ⟨c2, l2, e2, i2⟩ := rLen_back hB c1
  obtain ⟨c3, l3, e3, i3⟩ := rLen_back hB c2
  obtain ⟨c4, hkk, e4⟩ := kindF_back c3
  obtain ⟨c5, l5, e5⟩ := rUint_back c4
  rw [e4, e5] at e3 l3 i3
  dsimp only at e3 l3 i3
  rw [e4, e5, e3] at e2 l2 i2
  dsimp only at e2 l2 i2
  rw [e4, e5, e3, e2] at e1 l1 i1
  dsimp only at e1 l1 i1
  have hv : valB ((B.drop s.k).take 1) = 1 := by rw [e5] at hk; exact hk
  rw [e4, hk, e5]; dsimp only
  rw [e3]; dsimp only
  rw [e2]; dsimp only
  rw [e1]; dsimp only
  have hX : beV 1 1 = (B.drop s.k).take 1 := by
   have := beV_valB (X := (B.drop s.k).take 1) (n := 1) ((hB.drop _).take _) (seg_len l5) (by decide) (by decide)
   rw [hv] at this; exact this
  refine ⟨c5, ⟨i3, .inl ⟨rfl, i2, i1, rfl⟩⟩, Nat.zero_le _, fun x hx => (by cases hx), l1, rfl, ?_⟩
  unfold encC
  dsimp only
  rw [if_pos rfl, hX]
  have q3 := beV_valB (X := (B.drop (s.k + 1)).take 8) (n := 8) ((hB.drop _).take _) (by rw [List.length_take, List.length_drop]; omega) (by decide) (by decide)
  have q2 := beV_valB (X := (B.drop (s.k + 1 + 8)).take 8) (n := 8) ((hB.drop _).take _) (by rw [List.length_take, List.length_drop]; omega) (by decide) (by decide)
  have q1 := beV_valB (X := (B.drop (s.k + 1 + 8 + 8)).take 8) (n := 8) ((hB.drop _).take _) (by rw [List.length_take, List.length_drop]; omega) (by decide) (by decide)
  rw [show (8 : Int) = ((8 : Nat) : Int) from rfl, q3, q2, q1, take_step, take_step, take_step, take_step]
  simp only [List.append_assoc]
 ·rw [if_neg hk] at h ⊢
  dsimp only at h ⊢
  obtain ⟨c1, l1, e1⟩ := rBytes_back h
  obtain ⟨c2, l2, e2, i2⟩ := rLen_back hB c1
  obtain ⟨c3, l3, e3, i3⟩ := rLen_back hB c2
  obtain ⟨c4, hkk, e4⟩ := kindF_back c3
  obtain ⟨c5, l5, e5⟩ := rUint_back c4
  have hk2 : (rUint B s 1).1 = 2 := hkk.resolve_left hk
  rw [e4, e5] at e3 l3 i3
  dsimp only at e3 l3 i3
  rw [e4, e5, e3] at e2 l2 i2
  dsimp only at e2 l2 i2
  rw [e4, e5, e3, e2] at e1 l1
  dsimp only at e1 l1
  have hv : valB ((B.drop s.k).take 1) = 2 := by rw [e5] at hk2; exact hk2
  rw [e4, hk2, e5]; dsimp only
  rw [e3]; dsimp only
  rw [e2]; dsimp only
  rw [e1]; dsimp only
  have hX : beV 2 1 = (B.drop s.k).take 1 := by
   have := beV_valB (X := (B.drop s.k).take 1) (n := 1) ((hB.drop _).take _) (seg_len l5) (by decide) (by decide)
   rw [hv] at this; exact this
  generalize hm : valB ((B.drop (s.k + 1 + 8)).take 8) = m at *
  have hDl : ((B.drop (s.k + 1 + 8 + 8)).take m.toNat).length = m.toNat := by rw [List.length_take, List.length_drop]; omega
  refine ⟨c5, ⟨i3, .inr ⟨rfl, rfl, rfl⟩⟩, by rw [hDl]; omega, (hB.drop _).take _, l1, rfl, ?_⟩
  unfold encC
  dsimp only
  rw [if_neg (by decide), hX, hDl]
  have q3 := beV_valB (X := (B.drop (s.k + 1)).take 8) (n := 8) ((hB.drop _).take _) (by rw [List.length_take, List.length_drop]; omega) (by decide) (by decide)
  have q2 := beV_valB (X := (B.drop (s.k + 1 + 8)).take 8) (n := 8) ((hB.drop _).take _) (by rw [List.length_take, List.length_drop]; omega) (by decide) (by decide)
  have hmn : ((m.toNat : Nat) : Int) = m := Int.toNat_of_nonneg i2.1
  rw [hm] at q2
  rw [hmn, show (8 : Int) = ((8 : Nat) : Int) from rfl, q3, q2, take_step, take_step, take_step, take_step]
  simp only [List.append_assoc]
theorem rIter_back (hB : Bytes B) : ∀ i, (rIter B s i).2.co = 0 → s.k ≤ B.length → s.co = 0 ∧ (∀ c ∈ (rIter B s i).1, okC c ∧ c.B.length ≤ B.length ∧ Bytes c.B) ∧ (rIter B s i).1.length = i ∧ (rIter B s i).2.k ≤ B.length ∧ (rIter B s i).2.po = s.po ∧ B.take (rIter B s i).2.k = B.take s.k ++ encCs (rIter B s i).1
 | 0, h, hk => ⟨h, fun c hc => (by cases hc), rfl, hk, rfl, by show _ = _ ++ []; rw [List.append_nil]; rfl⟩
 | i + 1, h, hk => by
  by_cases h1 : (rIter B s i).2.co = 0
  ·obtain ⟨a1, a2, a3, a4, a5, a6⟩ := rIter_back hB i h1 hk
   rw [rIter_succ_ok h1] at h ⊢
   dsimp only at h ⊢
   obtain ⟨b1, b2, b3, b4, b5, b6, b7⟩ := rCmd_back hB h
   refine ⟨a1, fun c hc => ?_, by rw [List.length_append, a3]; rfl, b5, b6.trans a5, ?_⟩
   ·rcases List.mem_append.1 hc with hc | hc
    ·exact a2 c hc
    ·rw [List.mem_singleton.1 hc]; exact ⟨b2, b3, b4⟩
   ·rw [b7, a6, encCs_app]
    show _ = _ ++ (_ ++ (encC _ ++ []))
    rw [List.append_nil, List.append_assoc]
  ·rw [rIter_succ_no h1] at h; exact absurd h h1
end
theorem rDec_back {B : List Int} (hB : Bytes B) (h : (rDec B).s.co = 0) :
  inR (rDec B).o ∧ inR (rDec B).n ∧ (rDec B).h1.length = 32 ∧ (rDec B).h2.length = 32 ∧ (rDec B).Cs.length < 4294967296 ∧ (∀ c ∈ (rDec B).Cs, okC c ∧ c.B.length ≤ B.length ∧ Bytes c.B) ∧ (rDec B).Cs.length ≤ B.length ∧
  encD (rDec B).o (rDec B).n (rDec B).h1 (rDec B).h2 (rDec B).Cs = B ∧ (rDec B).s = ⟨B.length, 0, 0⟩ := by
 unfold rDec at h ⊢
 dsimp only at h ⊢
 obtain ⟨c0, l0, e0⟩ := extraF_back h
 have hlt : ∀ (s : RS) (n : Nat), (rUint B s n).2.co = 0 → (rUint B s n).2.k ≤ B.length := fun s n h => by
  obtain ⟨_, h2, h3⟩ := rUint_back h
  rw [h3]; exact h2
 have hco : ∀ (s : RS) i, (rIter B s i).2.co = 0 → s.co = 0 := fun s i hh => Classical.byContradiction fun hn => by rw [rIter_dead hn] at hh; exact hn hh
 have c1 := hco _ _ c0
 obtain ⟨_, a2, a3, a4, a5, a6⟩ := rIter_back hB _ c0 (hlt _ _ c1)
 obtain ⟨c2, l2, e2⟩ := rUint_back c1
 obtain ⟨c3, l3, e3⟩ := rBytes_back c2
 obtain ⟨c4, l4, e4⟩ := rBytes_back c3
 obtain ⟨c5, l5, e5, i5⟩ := rLen_back hB c4
 obtain ⟨c6, l6, e6, i6⟩ := rLen_back hB c5
 obtain ⟨c7, v7, e7⟩ := versF_back c6
 obtain ⟨c8, l8, e8⟩ := rUint_back c7
 obtain ⟨c9, d9, e9⟩ := rExp_back (by decide) c8
 have m4 : magicB.length = 4 := rfl
 rw [m4] at e9 d9
 dsimp only at e9 d9
 rw [e9] at e8 l8
 dsimp only at e8 l8
 rw [e9] at v7 e7
 dsimp only at v7 e7
 rw [e8] at v7 e7
 dsimp only at v7 e7
 simp only [e9, e8, e7] at e6 l6 i6
 simp only [e9, e8, e7, e6] at e5 l5 i5
 simp only [e9, e8, e7, e6, e5] at e4 l4
 simp only [e9, e8, e7, e6, e5, e4] at e3 l3
 simp only [e9, e8, e7, e6, e5, e4, e3] at e2 l2
 simp only [e9, e8, e7, e6, e5, e4, e3, e2] at a2 a3 a4 a5 a6 e0 l0 c0
 simp only [e9, e8, e7, e6, e5, e4, e3, e2]
 generalize hr : rIter B ⟨0 + 4 + 1 + 8 + 8 + 32 + 32 + 4, 0, 0⟩ (valB ((B.drop (0 + 4 + 1 + 8 + 8 + 32 + 32)).take 4)).toNat = r at *
 have hb4 : Bytes ((B.drop (0 + 4 + 1 + 8 + 8 + 32 + 32)).take 4) := (hB.drop _).take _
 obtain ⟨v, v1, v2⟩ := valB_nat' hb4
 have hl4 : ((B.drop (0 + 4 + 1 + 8 + 8 + 32 + 32)).take 4).length = 4 := by rw [List.length_take, List.length_drop]; omega
 rw [hl4, show (256 : Nat) ^ 4 = 4294967296 by decide] at v2
 rw [v1, Int.toNat_natCast] at a3
 have hle : r.1.length ≤ B.length := by
  have h1 := encCs_le r.1
  have h2 := congrArg List.length a6
  rw [List.length_append, List.length_take, List.length_take] at h2
  omega
 have hBk : B.take r.2.k = B := List.take_of_length_le l0
 refine ⟨i6, i5, by rw [List.length_take, List.length_drop]; omega, by rw [List.length_take, List.length_drop]; omega, by omega, a2, hle, ?_, ?_⟩
 ·have q1 := beV_valB (X := (B.drop (0 + 4)).take 1) (n := 1) ((hB.drop _).take _) (by rw [List.length_take, List.length_drop]; omega) (by decide) (by decide)
  have q2 := beV_valB (X := (B.drop (0 + 4 + 1)).take 8) (n := 8) ((hB.drop _).take _) (by rw [List.length_take, List.length_drop]; omega) (by decide) (by decide)
  have q3 := beV_valB (X := (B.drop (0 + 4 + 1 + 8)).take 8) (n := 8) ((hB.drop _).take _) (by rw [List.length_take, List.length_drop]; omega) (by decide) (by decide)
  have q4 := beV_valB (X := (B.drop (0 + 4 + 1 + 8 + 8 + 32 + 32)).take 4) (n := 4) hb4 hl4 (by decide) (by decide)
  rw [v7] at q1
  rw [v1, ← a3] at q4
  have q1' : beV 1 1 = (B.drop (0 + 4)).take 1 := q1
  have q4' : beV (r.1.length : Int) 4 = (B.drop (0 + 4 + 1 + 8 + 8 + 32 + 32)).take 4 := q4
  unfold encD
  rw [show (8 : Int) = ((8 : Nat) : Int) from rfl, q1', q2, q3, q4']
  have hM : magicB = B.take (0 + 4) := by rw [take_step]; rw [List.take_zero, List.nil_append]; exact d9.symm
  rw [hBk] at a6
  conv => rhs; rw [a6]
  rw [take_step B (0 + 4 + 1 + 8 + 8 + 32 + 32) 4, take_step B (0 + 4 + 1 + 8 + 8 + 32) 32, take_step B (0 + 4 + 1 + 8 + 8) 32, take_step B (0 + 4 + 1 + 8) 8, take_step B (0 + 4 + 1) 8, take_step B (0 + 4) 1, ← hM]
  simp only [List.append_assoc]
 ·rw [e0]
  have hk : r.2.k = B.length := by omega
  obtain ⟨r1, ⟨k, co, po⟩⟩ := r
  dsimp only at hk c0 a5 ⊢
  rw [hk, c0, a5]
def RI (B : List Int) (s : RS) : Prop := s.k ≤ B.length ∧ ((s.co = 0 ∧ s.po = 0) ∨ (s.co ≠ 0 ∧ 0 ≤ s.po ∧ s.po ≤ B.length))
section
variable {B : List Int} {s : RS} {n : Nat}
theorem rFail_ri {c p : Int} (hc : c ≠ 0) (h0 : 0 ≤ p) (hp : s.co = 0 → p ≤ B.length) (h : RI B s) : RI B (rFail s c p) := by
 unfold rFail
 by_cases h1 : s.co = 0
 ·rw [if_pos ⟨h1, hc⟩]; exact ⟨h.1, .inr ⟨hc, h0, hp h1⟩⟩
 ·rw [if_neg (fun x => h1 x.1)]; exact h
theorem po0 (h : RI B s) (hc : s.co = 0) : s.po = 0 := by
 rcases h.2 with h | h
 ·exact h.2
 ·exact absurd hc h.1
theorem rUint_ri (h : RI B s) : RI B (rUint B s n).2 := by
 unfold rUint
 by_cases h1 : s.co = 0
 ·rw [if_pos h1]
  by_cases h2 : B.length < s.k + n
  ·rw [if_pos h2]; exact ⟨h.1, .inr ⟨eight _ _, by dsimp only; omega, Int.le_refl _⟩⟩
  ·rw [if_neg h2]; exact ⟨by dsimp only; omega, .inl ⟨rfl, (po0 h h1 : s.po = 0)⟩⟩
 ·rw [if_neg h1]; exact h
theorem rBytes_ri (h : RI B s) : RI B (rBytes B s n).2 := by
 unfold rBytes
 by_cases h1 : s.co = 0
 ·rw [if_pos h1]
  by_cases h2 : B.length < s.k + n
  ·rw [if_pos h2]; exact ⟨h.1, .inr ⟨eight _ _, by dsimp only; omega, Int.le_refl _⟩⟩
  ·rw [if_neg h2]; exact ⟨by dsimp only; omega, .inl ⟨rfl, (po0 h h1 : s.po = 0)⟩⟩
 ·rw [if_neg h1]; exact h
theorem rLen_ri (h : RI B s) : RI B (rLen B s).2 := by
 unfold rLen
 split
 ·exact rFail_ri (by decide) (by omega) (fun _ => by have := h.1; omega) (rUint_ri h)
 ·exact rUint_ri h
theorem kindF_ri {kk : Int} {a : Nat} (ha : a ≤ B.length) (h : RI B s) : RI B (kindF s kk a) := by
 unfold kindF
 split
 ·exact rFail_ri (by decide) (by omega) (fun _ => by omega) h
 ·exact h
theorem extraF_ri (h : RI B s) : RI B (extraF B s) := by
 unfold extraF
 split
 ·exact rFail_ri (by decide) (by omega) (fun _ => by have := h.1; omega) h
 ·exact h
theorem rExp_ri {D : List Int} {code : Int} (hc : code ≠ 0) (h : RI B s) : RI B (rExp B s D code).2 := by
 unfold rExp
 by_cases h1 : s.co = 0
 ·rw [if_pos h1]
  by_cases h2 : (B.drop s.k).take D.length = D
  ·rw [if_pos h2]
   have h3 := congrArg List.length h2
   rw [List.length_take, List.length_drop] at h3
   have := h.1
   exact ⟨by dsimp only; omega, .inl ⟨rfl, (po0 h h1 : s.po = 0)⟩⟩
  ·rw [if_neg h2]
   by_cases h3 : D.take (B.length - s.k) = B.drop s.k
   ·rw [if_pos h3]; exact ⟨h.1, .inr ⟨eight _ _, by dsimp only; omega, Int.le_refl _⟩⟩
   ·rw [if_neg h3]; exact rFail_ri hc (by omega) (fun _ => by have := h.1; omega) h
 ·rw [if_neg h1]; exact h
theorem rCmd_ri (h : RI B s) : RI B (rCmd B s).2 := by
 have h2 := rLen_ri (kindF_ri (kk := (rUint B s 1).1) (a := s.k) h.1 (rUint_ri (n := 1) h))
 unfold rCmd
 dsimp only
 split
 ·exact rLen_ri (rLen_ri h2)
 ·exact rBytes_ri (rLen_ri h2)
theorem rIter_ri (h : RI B s) : ∀ i, RI B (rIter B s i).2
 | 0 => h
 | i + 1 => by
  by_cases h1 : (rIter B s i).2.co = 0
  ·rw [rIter_succ_ok h1]; exact rCmd_ri (rIter_ri h i)
  ·rw [rIter_succ_no h1]; exact rIter_ri h i
end
theorem rVers_ri (B : List Int) (v : Int) : RI B (versF (rUint B (rExp B ⟨0, 0, 0⟩ magicB 9).2 1).2 v) := by
 have h0 : RI B ⟨0, 0, 0⟩ := ⟨Nat.zero_le _, .inl ⟨rfl, rfl⟩⟩
 have h2 := rUint_ri (n := 1) (rExp_ri (D := magicB) (code := 9) (by decide) h0)
 unfold versF
 split
 ·rename_i hv
  refine rFail_ri (by decide) (by decide) (fun hc => ?_) h2
  obtain ⟨a, b, _⟩ := rUint_back hc
  obtain ⟨_, _, e⟩ := rExp_back (by decide) a
  rw [e] at b
  have : magicB.length = 4 := rfl
  rw [this] at b
  dsimp only at b
  omega
 ·exact h2
theorem rDec_ri (B : List Int) : RI B (rDec B).s := by
 have h3 := rVers_ri B
 unfold rDec
 dsimp only
 exact extraF_ri (rIter_ri (rUint_ri (rBytes_ri (rBytes_ri (rLen_ri (rLen_ri (h3 _)))))) _)
/-
 The reference of layer 6: Fail, Uint.
-/
theorem enters36 : Enters Tryz.prog 36 := ⟨_, Tryz.func36, by kernel_rfl, by kernel_rfl⟩
instance : Fld Tryz.prog 75 0 0 := ⟨⟨_, _, _, Tryz.underlying75, rfl, size22, rfl⟩⟩
instance : Fld Tryz.prog 75 1 1 := ⟨⟨_, _, _, Tryz.underlying75, rfl, size3, rfl⟩⟩
instance : Fld Tryz.prog 75 2 2 := ⟨⟨_, _, _, Tryz.underlying75, rfl, size3, rfl⟩⟩
instance : Fld Tryz.prog 75 3 3 := ⟨⟨_, _, _, Tryz.underlying75, rfl, size3, rfl⟩⟩
theorem rfail_dead (g : Nat) (A : Option Addr) (m c k : Nat) (co po d n : Int) (hco : co ≠ 0) (w : World) (hl : Ent.lies ⟨g, 75, rdC A m c k co po, rdN⟩ w)  : Calls Tryz.prog 36 #[.pointer (some ⟨g, 0, none⟩), .int .i64 d, .int .i64 n] w fun e w' => e = .returned (.tuple #[]) ∧ St w [] w' := by
 refine qL (args := [.pointer (some ⟨g, 0, none⟩), .int .i64 d, .int .i64 n]) Tryz.func36 rfl Tryz.ntmps36 (by simp) ?_
 refine qC [0, 1, 2] ?_
 refine qe (H' := [⟨g, 75, [slice A m c, int .i64 (k : Int), int .i64 co, int .i64 po], 4⟩]) (fun w hs => hs.take hl qF) ?_
 iterate 3 refine gx ?_
 refine qB (qA rfl) rfl (qO rfl rfl) ?_
 iterate 2 refine gx ?_
 refine qB (qA rfl) rfl (qU (qo rfl rfl rfl) hco) ?_
 iterate 6 refine gx ?_
 refine qC [0, 1, 2, 14] ?_
 refine qW rfl ?_
 refine gx ?_
 exact TE.end0 rfl (fun w hs => ⟨rfl, (hs.same hl rfl)⟩)
theorem rfail_set (g : Nat) (A : Option Addr) (m c k : Nat) (po d n : Int) (hd : d ≠ 0) (w : World) (hl : Ent.lies ⟨g, 75, rdC A m c k 0 po, rdN⟩ w)  : Calls Tryz.prog 36 #[.pointer (some ⟨g, 0, none⟩), .int .i64 d, .int .i64 n] w fun e w' => e = .returned (.tuple #[]) ∧ St w [⟨g, 75, rdC A m c k d n, rdN⟩] w' := by
 refine qL (args := [.pointer (some ⟨g, 0, none⟩), .int .i64 d, .int .i64 n]) Tryz.func36 rfl Tryz.ntmps36 (by simp) ?_
 refine qC [0, 1, 2] ?_
 refine qe (H' := [⟨g, 75, [slice A m c, int .i64 (k : Int), int .i64 0, int .i64 po], 4⟩]) (fun w hs => hs.take hl qF) ?_
 iterate 3 refine gx ?_
 refine qB (qA rfl) rfl (qO rfl rfl) ?_
 iterate 2 refine gx ?_
 refine qB (qA rfl) rfl (qP (qo rfl rfl rfl) rfl) ?_
 iterate 2 refine gx ?_
 refine qB (qJ rfl rfl rfl) rfl (qP (qs rfl rfl rfl) hd) ?_
 iterate 3 refine gx ?_
 refine qC [0, 1, 2, 14] ?_
 refine qd rfl ?_
 iterate 4 refine gx ?_
 refine qB (qA rfl) rfl (qO rfl rfl) ?_
 refine gx ?_
 refine qw (qA rfl) rfl rfl size3 rfl rfl rfl (i := 0) rfl rfl (by simp [] <;> omega) (cs' := [slice A m c, int .i64 (k : Int), int .i64 d, int .i64 po]) (rfl) (H' := [⟨g, 75, [slice A m c, int .i64 (k : Int), int .i64 d, int .i64 po], 4⟩]) rfl ?_
 iterate 5 refine gx ?_
 refine qB (qA rfl) rfl (qO rfl rfl) ?_
 refine gx ?_
 refine qw (qA rfl) rfl rfl size3 rfl rfl rfl (i := 0) rfl rfl (by simp [] <;> omega) (cs' := [slice A m c, int .i64 (k : Int), int .i64 d, int .i64 n]) (rfl) (H' := [⟨g, 75, [slice A m c, int .i64 (k : Int), int .i64 d, int .i64 n], 4⟩]) rfl ?_
 refine gx ?_
 exact TE.end0 rfl (fun w hs => ⟨rfl, hs⟩)
theorem rfail_s (g : Nat) (A : Option Addr) (m c : Nat) (s : RS) (d n : Int) (hd : d ≠ 0) (w : World) (hl : Ent.lies ⟨g, 75, rdC A m c s.k s.co s.po, rdN⟩ w) : Calls Tryz.prog 36 #[.pointer (some ⟨g, 0, none⟩), .int .i64 d, .int .i64 n] w fun e w' => e = .returned (.tuple #[]) ∧ St w [⟨g, 75, rdC A m c (rFail s d n).k (rFail s d n).co (rFail s d n).po, rdN⟩] w' := by
 obtain ⟨k, co, po⟩ := s
 unfold rFail
 by_cases h : co = 0
 ·subst h
  rw [if_pos ⟨rfl, hd⟩]
  exact rfail_set g A m c k po d n hd w hl
 ·rw [if_neg (fun x => h x.1)]
  exact (rfail_dead g A m c k co po d n h w hl).mono fun e w' ⟨he, hw⟩ => ⟨he, hw.take hl qF⟩
theorem ruint_dead (g : Nat) (A : Option Addr) (m c k : Nat) (co po n : Int) (hco : co ≠ 0) (w : World) (hl : Ent.lies ⟨g, 75, rdC A m c k co po, rdN⟩ w)  : Calls Tryz.prog 35 #[.pointer (some ⟨g, 0, none⟩), .int .i64 n] w fun e w' => e = .returned (.int .u64 0) ∧ St w [] w' := by
 refine qL (args := [.pointer (some ⟨g, 0, none⟩), .int .i64 n]) Tryz.func35 rfl Tryz.ntmps35 (by simp) ?_
 refine qC [0, 1] ?_
 refine qe (H' := [⟨g, 75, [slice A m c, int .i64 (k : Int), int .i64 co, int .i64 po], 4⟩]) (fun w hs => hs.take hl qF) ?_
 iterate 9 refine gx ?_
 refine qB (qA rfl) rfl (qO rfl rfl) ?_
 iterate 2 refine gx ?_
 refine qB (qA rfl) rfl (qP (qs rfl rfl rfl) hco) ?_
 iterate 2 refine gx ?_
 refine qd rfl ?_
 iterate 7 refine gx ?_
 exact qK rfl rfl (fun w hs => ⟨rfl, (hs.same hl rfl)⟩)
theorem ruint_short (g : Nat) (A : Option Addr) (m c k : Nat) (n : Nat) (po : Int) (hn : 1 ≤ n ∧ n ≤ 8) (hkn : m < k + n) (w : World) (hl : Ent.lies ⟨g, 75, rdC A m c k 0 po, rdN⟩ w) (hk : k ≤ m) (hmc : m ≤ c) (hcm : c ≤ 9223372036854775807)  : Calls Tryz.prog 35 #[.pointer (some ⟨g, 0, none⟩), .int .i64 (n : Int)] w fun e w' => e = .returned (.int .u64 0) ∧ St w [⟨g, 75, rdC A m c k 8 (m : Int), rdN⟩] w' := by
 refine qL (args := [.pointer (some ⟨g, 0, none⟩), .int .i64 (n : Int)]) Tryz.func35 rfl Tryz.ntmps35 (by simp) ?_
 refine qC [0, 1] ?_
 refine qe (H' := [⟨g, 75, [slice A m c, int .i64 (k : Int), int .i64 0, int .i64 po], 4⟩]) (fun w hs => hs.take hl qF) ?_
 iterate 9 refine gx ?_
 refine qB (qA rfl) rfl (qO rfl rfl) ?_
 iterate 2 refine gx ?_
 refine qB (qA rfl) rfl (qU (qs rfl rfl rfl) (fun h => h rfl)) ?_
 iterate 2 refine gx ?_
 refine qW rfl ?_
 iterate 6 refine gx ?_
 refine qB (qA rfl) rfl (qU (zC rfl rfl rfl) (by omega)) ?_
 iterate 2 refine gx ?_
 refine qB (qJ rfl rfl rfl) rfl (qU (zJ rfl rfl rfl) (by omega)) ?_
 iterate 3 refine gx ?_
 refine qC [0, 1, 4, 17] ?_
 refine qW rfl ?_
 iterate 4 refine gx ?_
 refine qy (by kernel_rfl) [0, 0, 0, 1, 0, 0, 0, 0, 1, 0, 0, 0] rfl (by kernel_rfl) ?_
 refine gx ?_
 refine qG (qA rfl) rfl (fun _ => qO rfl rfl) ?_
 iterate 4 refine gx ?_
 refine qG (qA rfl) rfl (fun _ => qO rfl rfl) ?_
 iterate 2 refine gx ?_
 refine qG (qA rfl) rfl (fun _ => zH rfl rfl rfl (r := ((m : Int) - (k : Int))) (w64 (by omega) (by omega))) ?_
 refine gx ?_
 refine qG (qA rfl) rfl (fun _ => qP (zC rfl rfl rfl) (by omega)) ?_
 iterate 2 refine gx ?_
 refine qC [0, 1, 4, 35] ?_
 refine qd rfl ?_
 iterate 4 refine gx ?_
 refine qB (qA rfl) rfl (qO rfl rfl) ?_
 iterate 3 refine gx ?_
 refine qY (ι := Unit) (V := fun _ => .tuple #[]) (R := fun _ => True) (H' := fun _ => [⟨g, 75, [slice A m c, int .i64 (k : Int), int .i64 8, int .i64 (m : Int)], 4⟩]) (qA rfl) rfl enters36 rfl rfl (fun w hs => (rfail_set g A m c k po 8 (m : Int) (by decide) w (hs.has (⟨g, 75, [slice A m c, int .i64 (k : Int), int .i64 0, int .i64 po], 4⟩) (by simp))).mono fun e w' ⟨he, hw⟩ => ⟨(), he, trivial, qi (i := 0) (e := ⟨g, 75, [slice A m c, int .i64 (k : Int), int .i64 8, int .i64 (m : Int)], 4⟩) hs rfl rfl hw⟩) (fun _ _ => ?_)
 iterate 2 refine gx ?_
 refine qC [0, 1, 4] ?_
 iterate 7 refine gx ?_
 exact qK rfl rfl (fun w hs => ⟨rfl, hs⟩)
theorem valB_lt {B : List Int} {i : Nat} (hB : Bytes B) (hi : i ≤ 7) : 0 ≤ valB (B.take i) ∧ valB (B.take i) ≤ 72057594037927935 := by
 obtain ⟨v, h1, h2⟩ := valB_nat (hB.take i)
 have h3 : (B.take i).length ≤ 7 := by rw [List.length_take]; omega
 have h4 : (256 : Nat) ^ (B.take i).length ≤ 256 ^ 7 := Nat.pow_le_pow_right (by decide) h3
 have h5 : (256 : Nat) ^ 7 = 72057594037927936 := by decide
 omega
theorem valB_next {B : List Int} {k i : Nat} (h : k + i < B.length) : 256 * valB ((B.drop k).take i) + B.getD (k + i) 0 = valB ((B.drop k).take (i + 1)) := by
 have h1 : i < (B.drop k).length := by rw [List.length_drop]; omega
 have h2 : (B.drop k).getD i 0 = B.getD (k + i) 0 := by simp [List.getD_eq_getElem?_getD]
 rw [take_snoc h1, valB_snoc, h2]
theorem ruint_okS (g : Nat) (b off : Nat) (m c k : Nat) (n : Nat) (po : Int) (hn : 1 ≤ n ∧ n ≤ 8) (hkn : k + n ≤ m) (B : List Int) (hBB : Bytes B) (hBm : B.length = m) (w : World) (hb : b < w.heap.size) (hbg : b ≠ g) (hr : RowI w b off m .u8 B) (hl : Ent.lies ⟨g, 75, rdC (some ⟨b, off, none⟩) m c k 0 po, rdN⟩ w) (hk : k ≤ m) (hmc : m ≤ c) (hcm : c ≤ 9223372036854775807)  : Calls Tryz.prog 35 #[.pointer (some ⟨g, 0, none⟩), .int .i64 (n : Int)] w fun e w' => e = .returned (.int .u64 (valB ((B.drop k).take (n)))) ∧ St w [⟨g, 75, rdC (some ⟨b, off, none⟩) m c (k + n) 0 po, rdN⟩] w' := by
 refine qL (args := [.pointer (some ⟨g, 0, none⟩), .int .i64 (n : Int)]) Tryz.func35 rfl Tryz.ntmps35 (by simp) ?_
 refine qC [0, 1] ?_
 refine qe (H' := [⟨g, 75, [slice (some ⟨b, off, none⟩) m c, int .i64 (k : Int), int .i64 0, int .i64 po], 4⟩]) (fun w hs => hs.take hl qF) ?_
 iterate 9 refine gx ?_
 refine qB (qA rfl) rfl (qO rfl rfl) ?_
 iterate 2 refine gx ?_
 refine qB (qA rfl) rfl (qU (qs rfl rfl rfl) (fun h => h rfl)) ?_
 iterate 2 refine gx ?_
 refine qW rfl ?_
 iterate 6 refine gx ?_
 refine qB (qA rfl) rfl (qU (zC rfl rfl rfl) (by omega)) ?_
 iterate 2 refine gx ?_
 refine qB (qJ rfl rfl rfl) rfl (qU (zJ rfl rfl rfl) (by omega)) ?_
 iterate 3 refine gx ?_
 refine qC [0, 1, 4, 17] ?_
 refine qW rfl ?_
 iterate 4 refine gx ?_
 refine qy (by kernel_rfl) [0, 0, 0, 1, 0, 0, 0, 0, 1, 0, 0, 0] rfl (by kernel_rfl) ?_
 refine gx ?_
 refine qG (qA rfl) rfl (fun _ => qO rfl rfl) ?_
 iterate 4 refine gx ?_
 refine qG (qA rfl) rfl (fun _ => qO rfl rfl) ?_
 iterate 2 refine gx ?_
 refine qG (qA rfl) rfl (fun _ => zH rfl rfl rfl (r := ((m : Int) - (k : Int))) (w64 (by omega) (by omega))) ?_
 refine gx ?_
 refine qG (qA rfl) rfl (fun _ => qU (zC rfl rfl rfl) (by omega)) ?_
 iterate 2 refine gx ?_
 refine qC [0, 1, 4, 35] ?_
 refine qW rfl ?_
 iterate 14 refine gx ?_
 refine qr (ι := Nat) (fun i => [(0, .pointer (some ⟨g, 0, none⟩)), (1, .int .i64 (n : Int)), (5, .int .u64 (valB ((B.drop k).take (i)))), (6, .int .i64 (i : Int))]) (fun i => [⟨g, 75, [slice (some ⟨b, off, none⟩) m c, int .i64 (((k + i) : Nat) : Int), int .i64 0, int .i64 po], 4⟩]) (fun i => n - i) (fun i => i ≤ n) 0 (Nat.zero_le _) (qI (i := 0) rfl (qH (i := 1) rfl (by first | omega | rfl) (qH (i := 5) rfl (by rw [List.take_zero]; rfl) (qH (i := 6) rfl (by first | omega | rfl) (qN))))) (fun w h => h) (fun i hC0 => ?_)
 iterate 8 refine gx ?_
 refine qX rfl (fun hq3 => ?_) (fun hq3 => ?_)
 ·have hvb : 0 ≤ (valB ((B.drop k).take (i))) ∧ (valB ((B.drop k).take (i))) ≤ 72057594037927935 := valB_lt (hBB.drop k) (by omega)
  have hbd := hBB.get (k + i)
  have hst := valB_next (B := B) (k := k) (i := i) (by omega)
  iterate 5 refine gx ?_
  refine qy (by kernel_rfl) [0, 0, 0, 0, 0, 1, 0, 0, 0, 1, 0, 1, 1, 0, 0] rfl (by kernel_rfl) ?_
  refine gx ?_
  refine qG (qA rfl) rfl (fun _ => zY rfl rfl rfl (r := (256 * (valB ((B.drop k).take (i))))) (wu64 (by omega) (by omega))) ?_
  refine gx ?_
  refine qG (qA rfl) rfl (fun _ => qO rfl rfl) ?_
  iterate 3 refine gx ?_
  refine qG (qA rfl) rfl (fun _ => qO rfl rfl) ?_
  iterate 2 refine gx ?_
  refine qG (qA rfl) rfl (fun _ => ql rfl Tryz.underlying22 size5 rfl rfl (i := (k + i)) (by omega) (by omega) (off' := (off + k + i)) (by omega)) ?_
  refine qk (qA rfl) rfl (qS rfl agg5 rfl (At.rowI hr (i := (k + i)) (by omega) (by omega) hb (qE (by show g ≠ b; omega) qF))) ?_
  refine qk (qA rfl) rfl (qt rfl Tryz.underlying5 Tryz.underlying37 rfl (r := (B.getD (k + i) 0)) (wu64 rfl (by omega))) ?_
  refine qG (qA rfl) rfl (fun _ => qR rfl rfl rfl (r := (256 * (valB ((B.drop k).take (i))) + (B.getD (k + i) 0))) (wu64 (by omega) (by omega))) ?_
  iterate 3 refine gx ?_
  refine qC [0, 1, 5, 6] ?_
  iterate 2 refine gx ?_
  refine qB (qA rfl) rfl (qO rfl rfl) ?_
  iterate 2 refine gx ?_
  refine qB (qA rfl) rfl (qR rfl rfl rfl (r := ((k : Int) + (i : Int) + 1)) (w64 (by omega) (by omega))) ?_
  refine qB (qA rfl) rfl (qO rfl rfl) ?_
  refine gx ?_
  refine qw (qA rfl) rfl rfl size3 rfl rfl rfl (i := 0) rfl rfl (by simp [] <;> omega) (cs' := [slice (some ⟨b, off, none⟩) m c, int .i64 ((k : Int) + (i : Int) + 1), int .i64 0, int .i64 po]) (rfl) (H' := [⟨g, 75, [slice (some ⟨b, off, none⟩) m c, int .i64 ((k : Int) + (i : Int) + 1), int .i64 0, int .i64 po], 4⟩]) rfl ?_
  iterate 3 refine gx ?_
  refine qC [0, 1, 5, 6] ?_
  iterate 2 refine gx ?_
  refine qB (qA rfl) rfl (qR rfl rfl rfl (r := ((i : Int) + 1)) (w64 (by omega) (by omega))) ?_
  iterate 2 refine gx ?_
  exact qj (i + 1) (by omega) (by omega) (qI (i := 0) rfl (qH (i := 1) rfl (by first | omega | rfl) (qH (i := 5) rfl hst (qH (i := 6) rfl (by first | omega | rfl) (qN))))) (fun w h => h)
 ·obtain rfl : n = i := by omega
  iterate 12 refine gx ?_
  exact qK rfl rfl (fun w hs => ⟨rfl, hs⟩)
theorem ruint_s (g : Nat) (A : Option Addr) (m c : Nat) (s : RS) (n : Nat) (hn : 1 ≤ n ∧ n ≤ 8) (w : World) (hl : Ent.lies ⟨g, 75, rdC A m c s.k s.co s.po, rdN⟩ w) (hk : s.k ≤ m) (hmc : m ≤ c) (hcm : c ≤ 9223372036854775807) (B : List Int) (hX : SrcX w [g] A m .u8 B) (hBB : Bytes B) : Calls Tryz.prog 35 #[.pointer (some ⟨g, 0, none⟩), .int .i64 (n : Int)] w fun e w' => e = .returned (.int .u64 (rUint B s n).1) ∧ St w [⟨g, 75, rdC A m c (rUint B s n).2.k (rUint B s n).2.co (rUint B s n).2.po, rdN⟩] w' := by
 have hBm := hX.1
 obtain ⟨k, co, po⟩ := s
 unfold rUint
 by_cases h : co = 0
 ·subst h
  rw [if_pos rfl]
  by_cases h2 : B.length < k + n
  ·rw [if_pos h2]
   have := ruint_short g A m c k n po hn (by omega) w hl hk hmc hcm
   rw [← hBm] at this ⊢
   exact this
  ·rw [if_neg h2]
   obtain ⟨b, off, rfl, hb, hbX, hr⟩ := hX.2.resolve_left (by omega)
   exact ruint_okS g b off m c k n po hn (by omega) B hBB hBm w hb (hbX g (by simp)) hr hl hk hmc hcm
 ·rw [if_neg h]
  exact (ruint_dead g A m c k co po n h w hl).mono fun e w' ⟨he, hw⟩ => ⟨he, hw.take hl qF⟩
theorem rUint_val {B : List Int} (hB : Bytes B) (s : RS) {n : Nat} (hn : n ≤ 8) : 0 ≤ (rUint B s n).1 ∧ (rUint B s n).1 ≤ 18446744073709551615 := by
 unfold rUint
 split
 ·split
  ·exact ⟨Int.le_refl _, show (0 : Int) ≤ 18446744073709551615 by decide⟩
  ·exact valB_bd ((hB.drop _).take _) (by rw [List.length_take]; omega)
 ·exact ⟨Int.le_refl _, show (0 : Int) ≤ 18446744073709551615 by decide⟩
theorem rLen_val {B : List Int} (hB : Bytes B) (s : RS) : 0 ≤ (rLen B s).1 ∧ (rLen B s).1 ≤ 4611686018427387903 := by
 have h := rUint_val hB s (n := 8) (Nat.le_refl _)
 unfold rLen
 split
 ·exact ⟨Int.le_refl _, show (0 : Int) ≤ 4611686018427387903 by decide⟩
 ·exact ⟨h.1, by omega⟩
/-
 The reference of layer 6: Length, Bytes.
-/
theorem enters35 : Enters Tryz.prog 35 := ⟨_, Tryz.func35, by kernel_rfl, by kernel_rfl⟩
theorem rLen_big {B : List Int} {s : RS} {x : Int × RS} (h : rUint B s 8 = x) (h1 : 4611686018427387903 < x.1) : rLen B s = (0, rFail x.2 2 s.k) := by
 unfold rLen; rw [h, if_pos h1]
theorem rLen_is {B : List Int} {s : RS} {x : Int × RS} (h : rUint B s 8 = x) (h1 : ¬ 4611686018427387903 < x.1) : rLen B s = x := by
 unfold rLen; rw [h, if_neg h1]
abbrev rE75 (g : Nat) (A : Option Addr) (m c : Nat) (z : RS) : Ent := ⟨g, 75, [slice A m c, int .i64 (z.k : Int), int .i64 z.co, int .i64 z.po], 4⟩
theorem rlen_s (g : Nat) (A : Option Addr) (m c : Nat) (s : RS) (w : World) (hl : Ent.lies ⟨g, 75, rdC A m c s.k s.co s.po, rdN⟩ w) (hk : s.k ≤ m) (hmc : m ≤ c) (hcm : c ≤ 9223372036854775807) (B : List Int) (hX : SrcX w [g] A m .u8 B) (hBB : Bytes B) (hri : RI B s)  : Calls Tryz.prog 37 #[.pointer (some ⟨g, 0, none⟩)] w fun e w' => e = .returned (.int .i64 (rLen B s).1) ∧ St w [⟨g, 75, rdC A m c (rLen B s).2.k (rLen B s).2.co (rLen B s).2.po, rdN⟩] w' := by
 have hBm := hX.1
 refine qL (args := [.pointer (some ⟨g, 0, none⟩)]) Tryz.func37 rfl Tryz.ntmps37 (by simp) ?_
 refine qC [0] ?_
 refine qe (H' := [(rE75 g A m c s)]) (fun w hs => hs.take hl qF) ?_
 iterate 8 refine gx ?_
 refine qB (qA rfl) rfl (qO rfl rfl) ?_
 iterate 8 refine gx ?_
 refine qY (ι := Unit) (V := fun _ => .int .u64 ((rUint B s 8).1)) (R := fun _ => True) (H' := fun _ => [(rE75 g A m c ((rUint B s 8).2))]) (qA rfl) rfl enters35 rfl rfl (fun w hs => (ruint_s g A m c s 8 (by omega) w (hs.has ((rE75 g A m c s)) (by simp)) (by omega) (by omega) (by omega) B (hX.at_ hs (fun b hb hbX => (qE (fun h => hbX g (by simp) h.symm) qF))) hBB).mono fun e w' ⟨he, hw⟩ => ⟨(), he, trivial, qi (i := 0) (e := (rE75 g A m c ((rUint B s 8).2))) hs rfl rfl hw⟩) (fun _ _ => ?_)
 have hvx := rUint_val hBB s (n := 8) (by omega)
 have hrix := rUint_ri (n := 8) hri
 generalize hx : rUint B s 8 = x at hvx hrix  ⊢
 have hkx : x.2.k ≤ m := by have := hrix.1; omega
 skip
 iterate 3 refine gx ?_
 refine qC [0, 2, 3, 4] ?_
 iterate 4 refine gx ?_
 by_cases c1 : 4611686018427387903 < x.1
 ·refine qB (qA rfl) rfl (qP (zJ rfl rfl rfl) c1) ?_
  iterate 2 refine gx ?_
  refine qd rfl ?_
  iterate 4 refine gx ?_
  refine qY (ι := Unit) (V := fun _ => .tuple #[]) (R := fun _ => True) (H' := fun _ => [(rE75 g A m c (rFail x.2 2 (s.k : Int)))]) (qA rfl) rfl enters36 rfl rfl (fun w hs => (rfail_s g A m c x.2 2 (s.k : Int) (by decide) w (hs.has ((rE75 g A m c x.2)) (by simp))).mono fun e w' ⟨he, hw⟩ => ⟨(), he, trivial, qi (i := 0) (e := (rE75 g A m c (rFail x.2 2 (s.k : Int)))) hs rfl rfl hw⟩) (fun _ _ => ?_)
  iterate 2 refine gx ?_
  refine qC [2, 4] ?_
  iterate 7 refine gx ?_
  have e := rLen_big hx c1
  rw [e]
  exact qK rfl rfl (fun w hs => ⟨rfl, hs⟩)
 ·refine qB (qA rfl) rfl (qU (zJ rfl rfl rfl) c1) ?_
  iterate 2 refine gx ?_
  refine qW rfl ?_
  iterate 5 refine gx ?_
  refine qB (qA rfl) rfl (qt rfl Tryz.underlying37 Tryz.underlying3 rfl (r := x.1) (w64 rfl (by omega))) ?_
  iterate 4 refine gx ?_
  have e := rLen_is hx c1
  rw [e]
  exact qK rfl rfl (fun w hs => ⟨rfl, hs⟩)
theorem rbytes_dead (g : Nat) (A : Option Addr) (m c k : Nat) (co po n : Int) (hco : co ≠ 0) (w : World) (hl : Ent.lies ⟨g, 75, rdC A m c k co po, rdN⟩ w)  : Calls Tryz.prog 38 #[.pointer (some ⟨g, 0, none⟩), .int .i64 n] w fun e w' => e = .returned (.slice none 0 0) ∧ St w [] w' := by
 refine qL (args := [.pointer (some ⟨g, 0, none⟩), .int .i64 n]) Tryz.func38 rfl Tryz.ntmps38 (by simp) ?_
 refine qC [0, 1] ?_
 refine qe (H' := [⟨g, 75, [slice A m c, int .i64 (k : Int), int .i64 co, int .i64 po], 4⟩]) (fun w hs => hs.take hl qF) ?_
 iterate 9 refine gx ?_
 refine qB (qA rfl) rfl (qO rfl rfl) ?_
 iterate 2 refine gx ?_
 refine qB (qA rfl) rfl (qP (qs rfl rfl rfl) hco) ?_
 iterate 2 refine gx ?_
 refine qd rfl ?_
 iterate 7 refine gx ?_
 exact qK rfl rfl (fun w hs => ⟨rfl, (hs.same hl rfl)⟩)
theorem rbytes_short (g : Nat) (A : Option Addr) (m c k : Nat) (n : Nat) (po : Int) (hkn : m < k + n) (w : World) (hl : Ent.lies ⟨g, 75, rdC A m c k 0 po, rdN⟩ w) (hk : k ≤ m) (hmc : m ≤ c) (hcm : c ≤ 9223372036854775807)  : Calls Tryz.prog 38 #[.pointer (some ⟨g, 0, none⟩), .int .i64 (n : Int)] w fun e w' => e = .returned (.slice none 0 0) ∧ St w [⟨g, 75, rdC A m c k 8 (m : Int), rdN⟩] w' := by
 refine qL (args := [.pointer (some ⟨g, 0, none⟩), .int .i64 (n : Int)]) Tryz.func38 rfl Tryz.ntmps38 (by simp) ?_
 refine qC [0, 1] ?_
 refine qe (H' := [⟨g, 75, [slice A m c, int .i64 (k : Int), int .i64 0, int .i64 po], 4⟩]) (fun w hs => hs.take hl qF) ?_
 iterate 9 refine gx ?_
 refine qB (qA rfl) rfl (qO rfl rfl) ?_
 iterate 2 refine gx ?_
 refine qB (qA rfl) rfl (qU (qs rfl rfl rfl) (fun h => h rfl)) ?_
 iterate 2 refine gx ?_
 refine qW rfl ?_
 iterate 6 refine gx ?_
 refine qB (qA rfl) rfl (qU (zC rfl rfl rfl) (by omega)) ?_
 iterate 2 refine gx ?_
 refine qC [0, 1, 4, 12] ?_
 refine qW rfl ?_
 iterate 4 refine gx ?_
 refine qy (by kernel_rfl) [0, 0, 0, 1, 0, 0, 0, 0, 1, 0, 0, 0] rfl (by kernel_rfl) ?_
 refine gx ?_
 refine qG (qA rfl) rfl (fun _ => qO rfl rfl) ?_
 iterate 4 refine gx ?_
 refine qG (qA rfl) rfl (fun _ => qO rfl rfl) ?_
 iterate 2 refine gx ?_
 refine qG (qA rfl) rfl (fun _ => zH rfl rfl rfl (r := ((m : Int) - (k : Int))) (w64 (by omega) (by omega))) ?_
 refine gx ?_
 refine qG (qA rfl) rfl (fun _ => qP (zC rfl rfl rfl) (by omega)) ?_
 iterate 2 refine gx ?_
 refine qC [0, 1, 4, 30] ?_
 refine qd rfl ?_
 iterate 4 refine gx ?_
 refine qB (qA rfl) rfl (qO rfl rfl) ?_
 iterate 3 refine gx ?_
 refine qY (ι := Unit) (V := fun _ => .tuple #[]) (R := fun _ => True) (H' := fun _ => [⟨g, 75, [slice A m c, int .i64 (k : Int), int .i64 8, int .i64 (m : Int)], 4⟩]) (qA rfl) rfl enters36 rfl rfl (fun w hs => (rfail_set g A m c k po 8 (m : Int) (by decide) w (hs.has (⟨g, 75, [slice A m c, int .i64 (k : Int), int .i64 0, int .i64 po], 4⟩) (by simp))).mono fun e w' ⟨he, hw⟩ => ⟨(), he, trivial, qi (i := 0) (e := ⟨g, 75, [slice A m c, int .i64 (k : Int), int .i64 8, int .i64 (m : Int)], 4⟩) hs rfl rfl hw⟩) (fun _ _ => ?_)
 iterate 2 refine gx ?_
 refine qC [0, 1, 4] ?_
 iterate 7 refine gx ?_
 exact qK rfl rfl (fun w hs => ⟨rfl, hs⟩)
theorem rbytes_ok (g : Nat) (A : Option Addr) (m c k : Nat) (n : Nat) (po : Int) (hkn : k + n ≤ m) (w : World) (hl : Ent.lies ⟨g, 75, rdC A m c k 0 po, rdN⟩ w) (hk : k ≤ m) (hmc : m ≤ c) (hcm : c ≤ 9223372036854775807)  : Calls Tryz.prog 38 #[.pointer (some ⟨g, 0, none⟩), .int .i64 (n : Int)] w fun e w' => e = .returned (.slice (cutA A c k 1) n (c - k)) ∧ St w [⟨g, 75, rdC A m c (k + n) 0 po, rdN⟩] w' := by
 refine qL (args := [.pointer (some ⟨g, 0, none⟩), .int .i64 (n : Int)]) Tryz.func38 rfl Tryz.ntmps38 (by simp) ?_
 refine qC [0, 1] ?_
 refine qe (H' := [⟨g, 75, [slice A m c, int .i64 (k : Int), int .i64 0, int .i64 po], 4⟩]) (fun w hs => hs.take hl qF) ?_
 iterate 9 refine gx ?_
 refine qB (qA rfl) rfl (qO rfl rfl) ?_
 iterate 2 refine gx ?_
 refine qB (qA rfl) rfl (qU (qs rfl rfl rfl) (fun h => h rfl)) ?_
 iterate 2 refine gx ?_
 refine qW rfl ?_
 iterate 6 refine gx ?_
 refine qB (qA rfl) rfl (qU (zC rfl rfl rfl) (by omega)) ?_
 iterate 2 refine gx ?_
 refine qC [0, 1, 4, 12] ?_
 refine qW rfl ?_
 iterate 4 refine gx ?_
 refine qy (by kernel_rfl) [0, 0, 0, 1, 0, 0, 0, 0, 1, 0, 0, 0] rfl (by kernel_rfl) ?_
 refine gx ?_
 refine qG (qA rfl) rfl (fun _ => qO rfl rfl) ?_
 iterate 4 refine gx ?_
 refine qG (qA rfl) rfl (fun _ => qO rfl rfl) ?_
 iterate 2 refine gx ?_
 refine qG (qA rfl) rfl (fun _ => zH rfl rfl rfl (r := ((m : Int) - (k : Int))) (w64 (by omega) (by omega))) ?_
 refine gx ?_
 refine qG (qA rfl) rfl (fun _ => qU (zC rfl rfl rfl) (by omega)) ?_
 iterate 2 refine gx ?_
 refine qC [0, 1, 4, 30] ?_
 refine qW rfl ?_
 iterate 3 refine gx ?_
 refine qy (by kernel_rfl) [0, 0, 0, 1, 0, 0, 0, 1, 0, 0, 0, 1, 0, 0, 0, 0] rfl (by kernel_rfl) ?_
 refine gx ?_
 refine qG (qA rfl) rfl (fun _ => qO rfl rfl) ?_
 iterate 3 refine gx ?_
 refine qG (qA rfl) rfl (fun _ => qO rfl rfl) ?_
 iterate 3 refine gx ?_
 refine qG (qA rfl) rfl (fun _ => qO rfl rfl) ?_
 iterate 3 refine gx ?_
 refine qG (qA rfl) rfl (fun _ => qR rfl rfl rfl (r := ((k : Int) + (n : Int))) (w64 (by omega) (by omega))) ?_
 refine qG (qA rfl) rfl (fun _ => zP rfl Tryz.underlying22 size5 rfl (bnd.at_ (l := k) rfl (by omega)) (bnd.at_ (l := (k + n)) rfl (by omega)) (by omega) (by omega) rfl (ln := n) (cp := (c - k)) (by omega) (by omega)) ?_
 iterate 3 refine gx ?_
 refine qC [0, 1, 4, 5] ?_
 iterate 4 refine gx ?_
 refine qB (qA rfl) rfl (qO rfl rfl) ?_
 iterate 3 refine gx ?_
 refine qB (qA rfl) rfl (qR rfl rfl rfl (r := ((k : Int) + (n : Int))) (w64 (by omega) (by omega))) ?_
 refine qB (qA rfl) rfl (qO rfl rfl) ?_
 refine gx ?_
 refine qw (qA rfl) rfl rfl size3 rfl rfl rfl (i := 0) rfl rfl (by simp [] <;> omega) (cs' := [slice A m c, int .i64 ((k : Int) + (n : Int)), int .i64 0, int .i64 po]) (rfl) (H' := [⟨g, 75, [slice A m c, int .i64 ((k : Int) + (n : Int)), int .i64 0, int .i64 po], 4⟩]) rfl ?_
 iterate 2 refine gx ?_
 refine qC [4, 5] ?_
 iterate 7 refine gx ?_
 exact qK rfl rfl (fun w hs => ⟨rfl, hs⟩)
def Seg (A : Option Addr) (m c : Nat) (B : List Int) (A' : Option Addr) (c' : Nat) (D : List Int) : Prop := (A' = none ∧ c' = 0 ∧ D = []) ∨ ∃ k, k + D.length ≤ m ∧ A' = cutA A c k 1 ∧ c' = c - k ∧ D = (B.drop k).take D.length
theorem Seg.src {A A' : Option Addr} {m c c' : Nat} {B D : List Int} {w : World} {X : List Nat} (h : Seg A m c B A' c' D) (hX : SrcX w X A m .u8 B) (hmc : m ≤ c) : SrcX w X A' D.length .u8 D := by
 rcases h with ⟨rfl, rfl, rfl⟩ | ⟨k, h1, rfl, rfl, h2⟩
 ·exact ⟨rfl, .inl rfl⟩
 ·have := (hX.drop (l := k) (by omega) hmc).head (n := D.length) (by omega)
  rw [← h2] at this; exact this
theorem Seg.cap {A A' : Option Addr} {m c c' : Nat} {B D : List Int} (h : Seg A m c B A' c' D) (hmc : m ≤ c) : D.length ≤ c' ∧ c' ≤ c ∧ D.length ≤ m := by
 rcases h with ⟨rfl, rfl, rfl⟩ | ⟨k, h1, rfl, rfl, h2⟩
 ·exact ⟨Nat.le_refl _, Nat.zero_le _, Nat.zero_le _⟩
 ·omega
theorem rbytes_s (g : Nat) (A : Option Addr) (m c : Nat) (s : RS) (n : Int) (hn : 0 ≤ n) (w : World) (hl : Ent.lies ⟨g, 75, rdC A m c s.k s.co s.po, rdN⟩ w) (hk : s.k ≤ m) (hmc : m ≤ c) (hcm : c ≤ 9223372036854775807) (B : List Int) (hBm : B.length = m) : Calls Tryz.prog 38 #[.pointer (some ⟨g, 0, none⟩), .int .i64 n] w fun e w' => ∃ (A' : Option Addr) (c' : Nat), e = .returned (.slice A' (rBytes B s n.toNat).1.length c') ∧ Seg A m c B A' c' (rBytes B s n.toNat).1 ∧ St w [⟨g, 75, rdC A m c (rBytes B s n.toNat).2.k (rBytes B s n.toNat).2.co (rBytes B s n.toNat).2.po, rdN⟩] w' := by
 obtain ⟨q, rfl⟩ := Int.eq_ofNat_of_zero_le hn
 rw [Int.toNat_natCast]
 obtain ⟨k, co, po⟩ := s
 dsimp only at hk hl
 unfold rBytes
 by_cases h : co = 0
 ·subst h
  rw [if_pos rfl]
  by_cases h2 : B.length < k + q
  ·rw [if_pos h2]
   refine (rbytes_short g A m c k q po (by omega) w hl hk hmc hcm).mono fun e w' ⟨he, hw⟩ => ⟨none, 0, he, .inl ⟨rfl, rfl, rfl⟩, ?_⟩
   rw [← hBm] at hw ⊢; exact hw
  ·rw [if_neg h2]
   have hln : ((B.drop k).take q).length = q := by rw [List.length_take, List.length_drop]; omega
   dsimp only
   rw [hln]
   refine (rbytes_ok g A m c k q po (by omega) w hl hk hmc hcm).mono fun e w' ⟨he, hw⟩ => ⟨(cutA A c k 1), c - k, he, .inr ⟨k, by omega, rfl, rfl, by rw [hln]⟩, hw⟩
 ·rw [if_neg h]
  exact (rbytes_dead g A m c k co po q h w hl).mono fun e w' ⟨he, hw⟩ => ⟨none, 0, he, .inl ⟨rfl, rfl, rfl⟩, hw.take hl qF⟩
theorem rUint_val1 {B : List Int} (hB : Bytes B) (s : RS) : 0 ≤ (rUint B s 1).1 ∧ (rUint B s 1).1 ≤ 255 := by
 unfold rUint
 split
 ·split
  ·exact ⟨Int.le_refl _, show (0 : Int) ≤ 255 by decide⟩
  ·obtain ⟨v, h1, h2⟩ := valB_nat ((hB.drop s.k).take 1)
   have h3 : ((B.drop s.k).take 1).length ≤ 1 := by rw [List.length_take]; omega
   have h4 : (256 : Nat) ^ ((B.drop s.k).take 1).length ≤ 256 ^ 1 := Nat.pow_le_pow_right (by decide) h3
   dsimp only
   omega
 ·exact ⟨Int.le_refl _, show (0 : Int) ≤ 255 by decide⟩
theorem rUint_val4 {B : List Int} (hB : Bytes B) (s : RS) : 0 ≤ (rUint B s 4).1 ∧ (rUint B s 4).1 ≤ 4294967295 := by
 unfold rUint
 split
 ·split
  ·exact ⟨Int.le_refl _, show (0 : Int) ≤ 4294967295 by decide⟩
  ·obtain ⟨v, h1, h2⟩ := valB_nat ((hB.drop s.k).take 4)
   have h3 : ((B.drop s.k).take 4).length ≤ 4 := by rw [List.length_take]; omega
   have h4 : (256 : Nat) ^ ((B.drop s.k).take 4).length ≤ 256 ^ 4 := Nat.pow_le_pow_right (by decide) h3
   have h5 : (256 : Nat) ^ 4 = 4294967296 := by decide
   dsimp only
   omega
 ·exact ⟨Int.le_refl _, show (0 : Int) ≤ 4294967295 by decide⟩
/-
 The reference of layer 6: Expect.
-/
theorem rexp_ok (g : Nat) (A : Option Addr) (m c k : Nat) (po d : Int) (hd : d ≠ 0) (w : World) (hl : Ent.lies ⟨g, 75, rdC A m c k 0 po, rdN⟩ w) (hk : k ≤ m) (hmc : m ≤ c) (hcm : c ≤ 9223372036854775807) (B : List Int) (hX : SrcX w [g] A m .u8 B) (hBB : Bytes B) (D : List Int) (Ad : Option Addr) (md cd : Nat) (hXD : SrcX w [g] Ad md .u8 D) (hBD : Bytes D) (hmd : md ≤ cd) (hcd : cd ≤ 9223372036854775807) (hml : md ≤ m - k) (h1 : (B.drop k).take md = D)  : Calls Tryz.prog 34 #[.pointer (some ⟨g, 0, none⟩), .slice Ad md cd, .int .i64 d] w fun e w' => e = .returned (.bool true) ∧ St w [⟨g, 75, rdC A m c (k + md) 0 po, rdN⟩] w' := by
 have hBm := hX.1
 have hDm := hXD.1
 refine qL (args := [.pointer (some ⟨g, 0, none⟩), .slice Ad md cd, .int .i64 d]) Tryz.func34 rfl Tryz.ntmps34 (by simp) ?_
 refine qC [0, 1, 2] ?_
 refine qe (H' := [⟨g, 75, [slice A m c, int .i64 (k : Int), int .i64 0, int .i64 po], 4⟩]) (fun w hs => hs.take hl qF) ?_
 iterate 9 refine gx ?_
 refine qB (qA rfl) rfl (qO rfl rfl) ?_
 iterate 2 refine gx ?_
 refine qB (qA rfl) rfl (qU (qs rfl rfl rfl) (fun h => h rfl)) ?_
 iterate 2 refine gx ?_
 refine qC [0, 1, 2, 6, 12] ?_
 refine qW rfl ?_
 iterate 3 refine gx ?_
 refine qy (by kernel_rfl) [0, 0, 0, 0, 0, 1, 0, 0, 0, 0, 1, 0, 0, 0] rfl (by kernel_rfl) ?_
 iterate 3 refine gx ?_
 refine qG (qA rfl) rfl (fun _ => qO rfl rfl) ?_
 iterate 4 refine gx ?_
 refine qG (qA rfl) rfl (fun _ => qO rfl rfl) ?_
 iterate 2 refine gx ?_
 refine qG (qA rfl) rfl (fun _ => zH rfl rfl rfl (r := ((m : Int) - (k : Int))) (w64 (by omega) (by omega))) ?_
 refine qG (qA rfl) rfl (fun _ => zX (Gets.min2 rfl rfl rfl) (by rw [show (if ((m : Int) - (k : Int)) < (md : Int) then ((m : Int) - (k : Int)) else (md : Int)) = (md : Int) from if_neg (by omega)])) ?_
 iterate 3 refine gx ?_
 refine qC [0, 1, 2, 6, 7] ?_
 iterate 2 refine gx ?_
 refine qy (by kernel_rfl) [0, 0, 0, 1, 0, 0, 0, 1, 0, 0, 0, 1, 0, 0, 0, 1, 0, 0, 0, 1, 0] rfl (by kernel_rfl) ?_
 refine gx ?_
 refine qG (qA rfl) rfl (fun _ => qO rfl rfl) ?_
 iterate 3 refine gx ?_
 refine qG (qA rfl) rfl (fun _ => qO rfl rfl) ?_
 iterate 3 refine gx ?_
 refine qG (qA rfl) rfl (fun _ => qO rfl rfl) ?_
 iterate 3 refine gx ?_
 refine qG (qA rfl) rfl (fun _ => qR rfl rfl rfl (r := ((k : Int) + (md : Int))) (w64 (by omega) (by omega))) ?_
 refine qG (qA rfl) rfl (fun _ => zP rfl Tryz.underlying22 size5 rfl (bnd.at_ (l := k) rfl (by omega)) (bnd.at_ (l := (k + md)) rfl (by omega)) (by omega) (by omega) rfl (ln := md) (cp := (c - k)) (by omega) (by omega)) ?_
 refine qk (qA rfl) rfl (Gets.b2s rfl Tryz.underlying22 Tryz.underlying9 Tryz.underlying5 rfl (fun w hs => ((((hX.at_ hs (fun b hb hbX => (qE (fun h => hbX g (by simp) h.symm) qF))).drop (l := k) (by omega) (by omega)).head (n := md) (by omega)).src))) ?_
 iterate 2 refine gx ?_
 refine qG (qA rfl) rfl (fun _ => zP rfl Tryz.underlying22 size5 rfl bnd.dflt (bnd.at_ (l := md) rfl (by omega)) (by omega) (by omega) (cutA_zero _ _ _) (ln := md) (cp := cd) (by omega) (by omega)) ?_
 refine qk (qA rfl) rfl (Gets.b2s rfl Tryz.underlying22 Tryz.underlying9 Tryz.underlying5 rfl (fun w hs => (((hXD.at_ hs (fun b hb hbX => (qE (fun h => hbX g (by simp) h.symm) qF))).head (n := md) (by omega)).src))) ?_
 refine qG (qA rfl) rfl (fun _ => qU (Gets.bytesNe rfl rfl rfl Tryz.underlying9 ((hBB.drop k).take md) (hBD.take md)) (fun h => h (by rw [h1, List.take_of_length_le (by omega)]))) ?_
 iterate 2 refine gx ?_
 refine qC [0, 1, 2, 6, 7, 46] ?_
 refine qW rfl ?_
 iterate 8 refine gx ?_
 refine qB (qA rfl) rfl (qU (zC rfl rfl rfl) (by omega)) ?_
 iterate 2 refine gx ?_
 refine qC [0, 6, 7, 57] ?_
 refine qW rfl ?_
 iterate 6 refine gx ?_
 refine qB (qA rfl) rfl (qO rfl rfl) ?_
 iterate 3 refine gx ?_
 refine qB (qA rfl) rfl (qR rfl rfl rfl (r := ((k : Int) + (md : Int))) (w64 (by omega) (by omega))) ?_
 refine qB (qA rfl) rfl (qO rfl rfl) ?_
 refine gx ?_
 refine qw (qA rfl) rfl rfl size3 rfl rfl rfl (i := 0) rfl rfl (by simp [] <;> omega) (cs' := [slice A m c, int .i64 ((k : Int) + (md : Int)), int .i64 0, int .i64 po]) (rfl) (H' := [⟨g, 75, [slice A m c, int .i64 ((k : Int) + (md : Int)), int .i64 0, int .i64 po], 4⟩]) rfl ?_
 iterate 2 refine gx ?_
 refine qC [6] ?_
 iterate 6 refine gx ?_
 exact qK rfl rfl (fun w hs => ⟨rfl, hs⟩)
theorem rexp_short (g : Nat) (A : Option Addr) (m c k : Nat) (po d : Int) (hd : d ≠ 0) (w : World) (hl : Ent.lies ⟨g, 75, rdC A m c k 0 po, rdN⟩ w) (hk : k ≤ m) (hmc : m ≤ c) (hcm : c ≤ 9223372036854775807) (B : List Int) (hX : SrcX w [g] A m .u8 B) (hBB : Bytes B) (D : List Int) (Ad : Option Addr) (md cd : Nat) (hXD : SrcX w [g] Ad md .u8 D) (hBD : Bytes D) (hmd : md ≤ cd) (hcd : cd ≤ 9223372036854775807) (hml : m - k < md) (h1 : D.take (m - k) = B.drop k)  : Calls Tryz.prog 34 #[.pointer (some ⟨g, 0, none⟩), .slice Ad md cd, .int .i64 d] w fun e w' => e = .returned (.bool false) ∧ St w [⟨g, 75, rdC A m c k 8 (m : Int), rdN⟩] w' := by
 have hBm := hX.1
 have hDm := hXD.1
 refine qL (args := [.pointer (some ⟨g, 0, none⟩), .slice Ad md cd, .int .i64 d]) Tryz.func34 rfl Tryz.ntmps34 (by simp) ?_
 refine qC [0, 1, 2] ?_
 refine qe (H' := [⟨g, 75, [slice A m c, int .i64 (k : Int), int .i64 0, int .i64 po], 4⟩]) (fun w hs => hs.take hl qF) ?_
 iterate 9 refine gx ?_
 refine qB (qA rfl) rfl (qO rfl rfl) ?_
 iterate 2 refine gx ?_
 refine qB (qA rfl) rfl (qU (qs rfl rfl rfl) (fun h => h rfl)) ?_
 iterate 2 refine gx ?_
 refine qC [0, 1, 2, 6, 12] ?_
 refine qW rfl ?_
 iterate 3 refine gx ?_
 refine qy (by kernel_rfl) [0, 0, 0, 0, 0, 1, 0, 0, 0, 0, 1, 0, 0, 0] rfl (by kernel_rfl) ?_
 iterate 3 refine gx ?_
 refine qG (qA rfl) rfl (fun _ => qO rfl rfl) ?_
 iterate 4 refine gx ?_
 refine qG (qA rfl) rfl (fun _ => qO rfl rfl) ?_
 iterate 2 refine gx ?_
 refine qG (qA rfl) rfl (fun _ => zH rfl rfl rfl (r := ((m : Int) - (k : Int))) (w64 (by omega) (by omega))) ?_
 refine qG (qA rfl) rfl (fun _ => zX (Gets.min2 rfl rfl rfl) (by rw [show (if ((m : Int) - (k : Int)) < (md : Int) then ((m : Int) - (k : Int)) else (md : Int)) = ((m - k : Nat) : Int) from by rw [if_pos (by omega)]; omega])) ?_
 iterate 3 refine gx ?_
 refine qC [0, 1, 2, 6, 7] ?_
 iterate 2 refine gx ?_
 refine qy (by kernel_rfl) [0, 0, 0, 1, 0, 0, 0, 1, 0, 0, 0, 1, 0, 0, 0, 1, 0, 0, 0, 1, 0] rfl (by kernel_rfl) ?_
 refine gx ?_
 refine qG (qA rfl) rfl (fun _ => qO rfl rfl) ?_
 iterate 3 refine gx ?_
 refine qG (qA rfl) rfl (fun _ => qO rfl rfl) ?_
 iterate 3 refine gx ?_
 refine qG (qA rfl) rfl (fun _ => qO rfl rfl) ?_
 iterate 3 refine gx ?_
 refine qG (qA rfl) rfl (fun _ => qR rfl rfl rfl (r := (m : Int)) (w64 (by omega) (by omega))) ?_
 refine qG (qA rfl) rfl (fun _ => zP rfl Tryz.underlying22 size5 rfl (bnd.at_ (l := k) rfl (by omega)) (bnd.at_ (l := m) rfl (by omega)) (by omega) (by omega) rfl (ln := (m - k)) (cp := (c - k)) (by omega) (by omega)) ?_
 refine qk (qA rfl) rfl (Gets.b2s rfl Tryz.underlying22 Tryz.underlying9 Tryz.underlying5 rfl (fun w hs => ((((hX.at_ hs (fun b hb hbX => (qE (fun h => hbX g (by simp) h.symm) qF))).drop (l := k) (by omega) (by omega)).head (n := (m - k)) (by omega)).src))) ?_
 iterate 2 refine gx ?_
 refine qG (qA rfl) rfl (fun _ => zP rfl Tryz.underlying22 size5 rfl bnd.dflt (bnd.at_ (l := (m - k)) rfl (by omega)) (by omega) (by omega) (cutA_zero _ _ _) (ln := (m - k)) (cp := cd) (by omega) (by omega)) ?_
 refine qk (qA rfl) rfl (Gets.b2s rfl Tryz.underlying22 Tryz.underlying9 Tryz.underlying5 rfl (fun w hs => (((hXD.at_ hs (fun b hb hbX => (qE (fun h => hbX g (by simp) h.symm) qF))).head (n := (m - k)) (by omega)).src))) ?_
 refine qG (qA rfl) rfl (fun _ => qU (Gets.bytesNe rfl rfl rfl Tryz.underlying9 ((hBB.drop k).take (m - k)) (hBD.take (m - k))) (fun h => h (by rw [h1, List.take_of_length_le (by rw [List.length_drop]; omega)]))) ?_
 iterate 2 refine gx ?_
 refine qC [0, 1, 2, 6, 7, 46] ?_
 refine qW rfl ?_
 iterate 8 refine gx ?_
 refine qB (qA rfl) rfl (qP (zC rfl rfl rfl) (by omega)) ?_
 iterate 2 refine gx ?_
 refine qC [0, 6, 7, 57] ?_
 refine qd rfl ?_
 iterate 4 refine gx ?_
 refine qB (qA rfl) rfl (qO rfl rfl) ?_
 iterate 3 refine gx ?_
 refine qY (ι := Unit) (V := fun _ => .tuple #[]) (R := fun _ => True) (H' := fun _ => [⟨g, 75, [slice A m c, int .i64 (k : Int), int .i64 8, int .i64 (m : Int)], 4⟩]) (qA rfl) rfl enters36 rfl rfl (fun w hs => (rfail_set g A m c k po 8 (m : Int) (by first | exact hd | decide) w (hs.has (⟨g, 75, [slice A m c, int .i64 (k : Int), int .i64 0, int .i64 po], 4⟩) (by simp))).mono fun e w' ⟨he, hw⟩ => ⟨(), he, trivial, qi (i := 0) (e := ⟨g, 75, [slice A m c, int .i64 (k : Int), int .i64 8, int .i64 (m : Int)], 4⟩) hs rfl rfl hw⟩) (fun _ _ => ?_)
 iterate 2 refine gx ?_
 refine qC [0, 6, 7] ?_
 iterate 7 refine gx ?_
 exact qK rfl rfl (fun w hs => ⟨rfl, hs⟩)
theorem rexp_bad1 (g : Nat) (A : Option Addr) (m c k : Nat) (po d : Int) (hd : d ≠ 0) (w : World) (hl : Ent.lies ⟨g, 75, rdC A m c k 0 po, rdN⟩ w) (hk : k ≤ m) (hmc : m ≤ c) (hcm : c ≤ 9223372036854775807) (B : List Int) (hX : SrcX w [g] A m .u8 B) (hBB : Bytes B) (D : List Int) (Ad : Option Addr) (md cd : Nat) (hXD : SrcX w [g] Ad md .u8 D) (hBD : Bytes D) (hmd : md ≤ cd) (hcd : cd ≤ 9223372036854775807) (hml : md ≤ m - k) (h1 : ¬ (B.drop k).take md = D)  : Calls Tryz.prog 34 #[.pointer (some ⟨g, 0, none⟩), .slice Ad md cd, .int .i64 d] w fun e w' => e = .returned (.bool false) ∧ St w [⟨g, 75, rdC A m c k d (k : Int), rdN⟩] w' := by
 have hBm := hX.1
 have hDm := hXD.1
 refine qL (args := [.pointer (some ⟨g, 0, none⟩), .slice Ad md cd, .int .i64 d]) Tryz.func34 rfl Tryz.ntmps34 (by simp) ?_
 refine qC [0, 1, 2] ?_
 refine qe (H' := [⟨g, 75, [slice A m c, int .i64 (k : Int), int .i64 0, int .i64 po], 4⟩]) (fun w hs => hs.take hl qF) ?_
 iterate 9 refine gx ?_
 refine qB (qA rfl) rfl (qO rfl rfl) ?_
 iterate 2 refine gx ?_
 refine qB (qA rfl) rfl (qU (qs rfl rfl rfl) (fun h => h rfl)) ?_
 iterate 2 refine gx ?_
 refine qC [0, 1, 2, 6, 12] ?_
 refine qW rfl ?_
 iterate 3 refine gx ?_
 refine qy (by kernel_rfl) [0, 0, 0, 0, 0, 1, 0, 0, 0, 0, 1, 0, 0, 0] rfl (by kernel_rfl) ?_
 iterate 3 refine gx ?_
 refine qG (qA rfl) rfl (fun _ => qO rfl rfl) ?_
 iterate 4 refine gx ?_
 refine qG (qA rfl) rfl (fun _ => qO rfl rfl) ?_
 iterate 2 refine gx ?_
 refine qG (qA rfl) rfl (fun _ => zH rfl rfl rfl (r := ((m : Int) - (k : Int))) (w64 (by omega) (by omega))) ?_
 refine qG (qA rfl) rfl (fun _ => zX (Gets.min2 rfl rfl rfl) (by rw [show (if ((m : Int) - (k : Int)) < (md : Int) then ((m : Int) - (k : Int)) else (md : Int)) = (md : Int) from if_neg (by omega)])) ?_
 iterate 3 refine gx ?_
 refine qC [0, 1, 2, 6, 7] ?_
 iterate 2 refine gx ?_
 refine qy (by kernel_rfl) [0, 0, 0, 1, 0, 0, 0, 1, 0, 0, 0, 1, 0, 0, 0, 1, 0, 0, 0, 1, 0] rfl (by kernel_rfl) ?_
 refine gx ?_
 refine qG (qA rfl) rfl (fun _ => qO rfl rfl) ?_
 iterate 3 refine gx ?_
 refine qG (qA rfl) rfl (fun _ => qO rfl rfl) ?_
 iterate 3 refine gx ?_
 refine qG (qA rfl) rfl (fun _ => qO rfl rfl) ?_
 iterate 3 refine gx ?_
 refine qG (qA rfl) rfl (fun _ => qR rfl rfl rfl (r := ((k : Int) + (md : Int))) (w64 (by omega) (by omega))) ?_
 refine qG (qA rfl) rfl (fun _ => zP rfl Tryz.underlying22 size5 rfl (bnd.at_ (l := k) rfl (by omega)) (bnd.at_ (l := (k + md)) rfl (by omega)) (by omega) (by omega) rfl (ln := md) (cp := (c - k)) (by omega) (by omega)) ?_
 refine qk (qA rfl) rfl (Gets.b2s rfl Tryz.underlying22 Tryz.underlying9 Tryz.underlying5 rfl (fun w hs => ((((hX.at_ hs (fun b hb hbX => (qE (fun h => hbX g (by simp) h.symm) qF))).drop (l := k) (by omega) (by omega)).head (n := md) (by omega)).src))) ?_
 iterate 2 refine gx ?_
 refine qG (qA rfl) rfl (fun _ => zP rfl Tryz.underlying22 size5 rfl bnd.dflt (bnd.at_ (l := md) rfl (by omega)) (by omega) (by omega) (cutA_zero _ _ _) (ln := md) (cp := cd) (by omega) (by omega)) ?_
 refine qk (qA rfl) rfl (Gets.b2s rfl Tryz.underlying22 Tryz.underlying9 Tryz.underlying5 rfl (fun w hs => (((hXD.at_ hs (fun b hb hbX => (qE (fun h => hbX g (by simp) h.symm) qF))).head (n := md) (by omega)).src))) ?_
 refine qG (qA rfl) rfl (fun _ => qP (Gets.bytesNe rfl rfl rfl Tryz.underlying9 ((hBB.drop k).take md) (hBD.take md)) (fun h => h1 (by rw [h, List.take_of_length_le (by omega)]))) ?_
 iterate 2 refine gx ?_
 refine qC [0, 1, 2, 6, 7, 46] ?_
 refine qd rfl ?_
 iterate 5 refine gx ?_
 refine qB (qA rfl) rfl (qO rfl rfl) ?_
 iterate 2 refine gx ?_
 refine qY (ι := Unit) (V := fun _ => .tuple #[]) (R := fun _ => True) (H' := fun _ => [⟨g, 75, [slice A m c, int .i64 (k : Int), int .i64 d, int .i64 (k : Int)], 4⟩]) (qA rfl) rfl enters36 rfl rfl (fun w hs => (rfail_set g A m c k po d (k : Int) (by first | exact hd | decide) w (hs.has (⟨g, 75, [slice A m c, int .i64 (k : Int), int .i64 0, int .i64 po], 4⟩) (by simp))).mono fun e w' ⟨he, hw⟩ => ⟨(), he, trivial, qi (i := 0) (e := ⟨g, 75, [slice A m c, int .i64 (k : Int), int .i64 d, int .i64 (k : Int)], 4⟩) hs rfl rfl hw⟩) (fun _ _ => ?_)
 iterate 2 refine gx ?_
 refine qC [0, 1, 6, 7] ?_
 iterate 7 refine gx ?_
 exact qK rfl rfl (fun w hs => ⟨rfl, hs⟩)
theorem rexp_bad2 (g : Nat) (A : Option Addr) (m c k : Nat) (po d : Int) (hd : d ≠ 0) (w : World) (hl : Ent.lies ⟨g, 75, rdC A m c k 0 po, rdN⟩ w) (hk : k ≤ m) (hmc : m ≤ c) (hcm : c ≤ 9223372036854775807) (B : List Int) (hX : SrcX w [g] A m .u8 B) (hBB : Bytes B) (D : List Int) (Ad : Option Addr) (md cd : Nat) (hXD : SrcX w [g] Ad md .u8 D) (hBD : Bytes D) (hmd : md ≤ cd) (hcd : cd ≤ 9223372036854775807) (hml : m - k < md) (h1 : ¬ D.take (m - k) = B.drop k)  : Calls Tryz.prog 34 #[.pointer (some ⟨g, 0, none⟩), .slice Ad md cd, .int .i64 d] w fun e w' => e = .returned (.bool false) ∧ St w [⟨g, 75, rdC A m c k d (k : Int), rdN⟩] w' := by
 have hBm := hX.1
 have hDm := hXD.1
 refine qL (args := [.pointer (some ⟨g, 0, none⟩), .slice Ad md cd, .int .i64 d]) Tryz.func34 rfl Tryz.ntmps34 (by simp) ?_
 refine qC [0, 1, 2] ?_
 refine qe (H' := [⟨g, 75, [slice A m c, int .i64 (k : Int), int .i64 0, int .i64 po], 4⟩]) (fun w hs => hs.take hl qF) ?_
 iterate 9 refine gx ?_
 refine qB (qA rfl) rfl (qO rfl rfl) ?_
 iterate 2 refine gx ?_
 refine qB (qA rfl) rfl (qU (qs rfl rfl rfl) (fun h => h rfl)) ?_
 iterate 2 refine gx ?_
 refine qC [0, 1, 2, 6, 12] ?_
 refine qW rfl ?_
 iterate 3 refine gx ?_
 refine qy (by kernel_rfl) [0, 0, 0, 0, 0, 1, 0, 0, 0, 0, 1, 0, 0, 0] rfl (by kernel_rfl) ?_
 iterate 3 refine gx ?_
 refine qG (qA rfl) rfl (fun _ => qO rfl rfl) ?_
 iterate 4 refine gx ?_
 refine qG (qA rfl) rfl (fun _ => qO rfl rfl) ?_
 iterate 2 refine gx ?_
 refine qG (qA rfl) rfl (fun _ => zH rfl rfl rfl (r := ((m : Int) - (k : Int))) (w64 (by omega) (by omega))) ?_
 refine qG (qA rfl) rfl (fun _ => zX (Gets.min2 rfl rfl rfl) (by rw [show (if ((m : Int) - (k : Int)) < (md : Int) then ((m : Int) - (k : Int)) else (md : Int)) = ((m - k : Nat) : Int) from by rw [if_pos (by omega)]; omega])) ?_
 iterate 3 refine gx ?_
 refine qC [0, 1, 2, 6, 7] ?_
 iterate 2 refine gx ?_
 refine qy (by kernel_rfl) [0, 0, 0, 1, 0, 0, 0, 1, 0, 0, 0, 1, 0, 0, 0, 1, 0, 0, 0, 1, 0] rfl (by kernel_rfl) ?_
 refine gx ?_
 refine qG (qA rfl) rfl (fun _ => qO rfl rfl) ?_
 iterate 3 refine gx ?_
 refine qG (qA rfl) rfl (fun _ => qO rfl rfl) ?_
 iterate 3 refine gx ?_
 refine qG (qA rfl) rfl (fun _ => qO rfl rfl) ?_
 iterate 3 refine gx ?_
 refine qG (qA rfl) rfl (fun _ => qR rfl rfl rfl (r := (m : Int)) (w64 (by omega) (by omega))) ?_
 refine qG (qA rfl) rfl (fun _ => zP rfl Tryz.underlying22 size5 rfl (bnd.at_ (l := k) rfl (by omega)) (bnd.at_ (l := m) rfl (by omega)) (by omega) (by omega) rfl (ln := (m - k)) (cp := (c - k)) (by omega) (by omega)) ?_
 refine qk (qA rfl) rfl (Gets.b2s rfl Tryz.underlying22 Tryz.underlying9 Tryz.underlying5 rfl (fun w hs => ((((hX.at_ hs (fun b hb hbX => (qE (fun h => hbX g (by simp) h.symm) qF))).drop (l := k) (by omega) (by omega)).head (n := (m - k)) (by omega)).src))) ?_
 iterate 2 refine gx ?_
 refine qG (qA rfl) rfl (fun _ => zP rfl Tryz.underlying22 size5 rfl bnd.dflt (bnd.at_ (l := (m - k)) rfl (by omega)) (by omega) (by omega) (cutA_zero _ _ _) (ln := (m - k)) (cp := cd) (by omega) (by omega)) ?_
 refine qk (qA rfl) rfl (Gets.b2s rfl Tryz.underlying22 Tryz.underlying9 Tryz.underlying5 rfl (fun w hs => (((hXD.at_ hs (fun b hb hbX => (qE (fun h => hbX g (by simp) h.symm) qF))).head (n := (m - k)) (by omega)).src))) ?_
 refine qG (qA rfl) rfl (fun _ => qP (Gets.bytesNe rfl rfl rfl Tryz.underlying9 ((hBB.drop k).take (m - k)) (hBD.take (m - k))) (fun h => h1 (by rw [← h, List.take_of_length_le (by rw [List.length_drop]; omega)]))) ?_
 iterate 2 refine gx ?_
 refine qC [0, 1, 2, 6, 7, 46] ?_
 refine qd rfl ?_
 iterate 5 refine gx ?_
 refine qB (qA rfl) rfl (qO rfl rfl) ?_
 iterate 2 refine gx ?_
 refine qY (ι := Unit) (V := fun _ => .tuple #[]) (R := fun _ => True) (H' := fun _ => [⟨g, 75, [slice A m c, int .i64 (k : Int), int .i64 d, int .i64 (k : Int)], 4⟩]) (qA rfl) rfl enters36 rfl rfl (fun w hs => (rfail_set g A m c k po d (k : Int) (by first | exact hd | decide) w (hs.has (⟨g, 75, [slice A m c, int .i64 (k : Int), int .i64 0, int .i64 po], 4⟩) (by simp))).mono fun e w' ⟨he, hw⟩ => ⟨(), he, trivial, qi (i := 0) (e := ⟨g, 75, [slice A m c, int .i64 (k : Int), int .i64 d, int .i64 (k : Int)], 4⟩) hs rfl rfl hw⟩) (fun _ _ => ?_)
 iterate 2 refine gx ?_
 refine qC [0, 1, 6, 7] ?_
 iterate 7 refine gx ?_
 exact qK rfl rfl (fun w hs => ⟨rfl, hs⟩)
theorem rexp_dead (g : Nat) (A : Option Addr) (m c k : Nat) (co po d : Int) (Ad : Option Addr) (md cd : Nat) (hco : co ≠ 0) (w : World) (hl : Ent.lies ⟨g, 75, rdC A m c k co po, rdN⟩ w)  : Calls Tryz.prog 34 #[.pointer (some ⟨g, 0, none⟩), .slice Ad md cd, .int .i64 d] w fun e w' => e = .returned (.bool false) ∧ St w [] w' := by
 refine qL (args := [.pointer (some ⟨g, 0, none⟩), .slice Ad md cd, .int .i64 d]) Tryz.func34 rfl Tryz.ntmps34 (by simp) ?_
 refine qC [0, 1, 2] ?_
 refine qe (H' := [⟨g, 75, [slice A m c, int .i64 (k : Int), int .i64 co, int .i64 po], 4⟩]) (fun w hs => hs.take hl qF) ?_
 iterate 9 refine gx ?_
 refine qB (qA rfl) rfl (qO rfl rfl) ?_
 iterate 2 refine gx ?_
 refine qB (qA rfl) rfl (qP (qs rfl rfl rfl) hco) ?_
 iterate 2 refine gx ?_
 refine qC [0, 1, 2, 6, 12] ?_
 refine qd rfl ?_
 iterate 7 refine gx ?_
 exact qK rfl rfl (fun w hs => ⟨rfl, (hs.same hl rfl)⟩)
theorem rexp_s (g : Nat) (A : Option Addr) (m c : Nat) (s : RS) (d : Int) (hd : d ≠ 0) (w : World) (hl : Ent.lies ⟨g, 75, rdC A m c s.k s.co s.po, rdN⟩ w) (hk : s.k ≤ m) (hmc : m ≤ c) (hcm : c ≤ 9223372036854775807) (B : List Int) (hX : SrcX w [g] A m .u8 B) (hBB : Bytes B) (D : List Int) (Ad : Option Addr) (md cd : Nat) (hXD : SrcX w [g] Ad md .u8 D) (hBD : Bytes D) (hmd : md ≤ cd) (hcd : cd ≤ 9223372036854775807) : Calls Tryz.prog 34 #[.pointer (some ⟨g, 0, none⟩), .slice Ad md cd, .int .i64 d] w fun e w' => e = .returned (.bool (rExp B s D d).1) ∧ St w [⟨g, 75, rdC A m c (rExp B s D d).2.k (rExp B s D d).2.co (rExp B s D d).2.po, rdN⟩] w' := by
 have hBm := hX.1
 have hDm := hXD.1
 obtain ⟨k, co, po⟩ := s
 dsimp only at hk hl
 unfold rExp
 by_cases h : co = 0
 ·subst h
  rw [if_pos rfl]
  dsimp only
  rw [hBm, hDm]
  by_cases h1 : (B.drop k).take md = D
  ·rw [if_pos h1]
   have h2 := congrArg List.length h1
   rw [List.length_take, List.length_drop] at h2
   exact rexp_ok g A m c k po d hd w hl hk hmc hcm B hX hBB D Ad md cd hXD hBD hmd hcd (by omega) h1
  ·rw [if_neg h1]
   by_cases h2 : D.take (m - k) = B.drop k
   ·rw [if_pos h2]
    have h3 : m - k < md := by
     apply Nat.lt_of_not_le
     intro h4
     apply h1
     rw [← h2, List.take_take, Nat.min_eq_left h4, List.take_of_length_le (by omega)]
    exact rexp_short g A m c k po d hd w hl hk hmc hcm B hX hBB D Ad md cd hXD hBD hmd hcd h3 h2
   ·rw [if_neg h2]
    have e : rFail ⟨k, 0, po⟩ d (k : Int) = ⟨k, d, k⟩ := by unfold rFail; rw [if_pos ⟨rfl, hd⟩]
    dsimp only
    rw [e]
    by_cases h4 : md ≤ m - k
    ·exact rexp_bad1 g A m c k po d hd w hl hk hmc hcm B hX hBB D Ad md cd hXD hBD hmd hcd h4 h1
    ·exact rexp_bad2 g A m c k po d hd w hl hk hmc hcm B hX hBB D Ad md cd hXD hBD hmd hcd (by omega) h2
 ·rw [if_neg h]
  exact (rexp_dead g A m c k co po d Ad md cd h w hl).mono fun e w' ⟨he, hw⟩ => ⟨he, hw.take hl qF⟩
/-
 The reference of layer 7: command.
-/
theorem enters37 : Enters Tryz.prog 37 := ⟨_, Tryz.func37, by kernel_rfl, by kernel_rfl⟩
theorem enters38 : Enters Tryz.prog 38 := ⟨_, Tryz.func38, by kernel_rfl, by kernel_rfl⟩
theorem kindF_T {s : RS} {kk : Int} {a : Nat} (h1 : s.co = 0) (h2 : kk ≠ 1) (h3 : kk ≠ 2) : kindF s kk a = rFail s 11 a := by unfold kindF; rw [if_pos ⟨h1, h2, h3⟩]
theorem kindF_F {s : RS} {kk : Int} {a : Nat} (h : ¬ (s.co = 0 ∧ kk ≠ 1 ∧ kk ≠ 2)) : kindF s kk a = s := by unfold kindF; rw [if_neg h]
theorem rCmd_copy {B : List Int} {s z : RS} {x t f l : Int × RS} (hx : rUint B s 1 = x) (hz : kindF x.2 x.1 s.k = z) (ht : rLen B z = t) (h1 : x.1 = 1) (hf : rLen B t.2 = f) (hl : rLen B f.2 = l) : rCmd B s = (⟨x.1, t.1, f.1, l.1, []⟩, l.2) := by
 unfold rCmd; dsimp only; rw [hx, hz, ht, hf, hl, if_pos h1]
theorem rCmd_lit {B : List Int} {s z : RS} {x t m : Int × RS} {D : List Int × RS} (hx : rUint B s 1 = x) (hz : kindF x.2 x.1 s.k = z) (ht : rLen B z = t) (h1 : ¬ x.1 = 1) (hm : rLen B t.2 = m) (hD : rBytes B m.2 m.1.toNat = D) : rCmd B s = (⟨x.1, t.1, 0, 0, D.1⟩, D.2) := by
 unfold rCmd; dsimp only; rw [hx, hz, ht, hm, hD, if_neg h1]
theorem rcommand_s (g : Nat) (A : Option Addr) (m c : Nat) (s : RS) (w : World) (hl : Ent.lies ⟨g, 75, rdC A m c s.k s.co s.po, rdN⟩ w) (hk : s.k ≤ m) (hmc : m ≤ c) (hcm : c ≤ 9223372036854775807) (B : List Int) (hX : SrcX w [g] A m .u8 B) (hBB : Bytes B) (hri : RI B s)  : Calls Tryz.prog 39 #[.pointer (some ⟨g, 0, none⟩)] w fun e w' => ∃ (A' : Option Addr) (c' : Nat), e = .returned (.agg ([int .i64 (rCmd B s).1.k, int .i64 (rCmd B s).1.t, int .i64 (rCmd B s).1.f, int .i64 (rCmd B s).1.l, slice A' (rCmd B s).1.B.length c']).toArray) ∧ Seg A m c B A' c' (rCmd B s).1.B ∧ St w [⟨g, 75, rdC A m c (rCmd B s).2.k (rCmd B s).2.co (rCmd B s).2.po, rdN⟩] w' := by
 have hBm := hX.1
 have hg : g < w.heap.size := hl.lt
 refine qL (args := [.pointer (some ⟨g, 0, none⟩)]) Tryz.func39 rfl Tryz.ntmps39 (by simp) ?_
 refine qC [0] ?_
 refine qe (H' := [(rE75 g A m c s)]) (fun w hs => hs.take hl qF) ?_
 iterate 2 refine gx ?_
 refine qc (fun g1 hg1 => ?_)
 iterate 5 refine gx ?_
 refine qB (qA rfl) rfl (qO rfl rfl) ?_
 iterate 8 refine gx ?_
 refine qY (ι := Unit) (V := fun _ => .int .u64 ((rUint B s 1).1)) (R := fun _ => True) (H' := fun _ => [⟨g1, 61, [int .i64 0, int .i64 0, int .i64 0, int .i64 0, slice none 0 0], 5⟩, (rE75 g A m c ((rUint B s 1).2))]) (qA rfl) rfl enters35 rfl rfl (fun w hs => (ruint_s g A m c s 1 (by omega) w (hs.has ((rE75 g A m c s)) (by simp)) (by omega) (by omega) (by omega) B (hX.at_ hs (fun b hb hbX => (qE (by show g1 ≠ b; omega) (qE (fun h => hbX g (by simp) h.symm) qF)))) hBB).mono fun e w' ⟨he, hw⟩ => ⟨(), he, trivial, qi (i := 1) (e := (rE75 g A m c ((rUint B s 1).2))) hs rfl rfl hw⟩) (fun _ _ => ?_)
 have hwx := rUint_val1 hBB s
 have hvx := rUint_val hBB s (n := 1) (by omega)
 have hrix := rUint_ri (n := 1) hri
 generalize hx : rUint B s 1 = x at hvx hrix hwx ⊢
 have hkx : x.2.k ≤ m := by have := hrix.1; omega
 skip
 refine qB (qA rfl) rfl (qt rfl Tryz.underlying37 Tryz.underlying3 rfl (r := x.1) (w64 rfl (by omega))) ?_
 refine qB (qA rfl) rfl (qm rfl (vs := [(0, int .i64 x.1)]) rfl (fun w => by first | rfl | kernel_rfl) (v := .agg ([int .i64 x.1, int .i64 0, int .i64 0, int .i64 0, slice none 0 0]).toArray)) ?_
 refine qc (fun g2 hg2 => ?_)
 iterate 3 refine gx ?_
 refine qC [0, 2, 3, 4] ?_
 iterate 4 refine gx ?_
 refine qB (qA rfl) rfl (qO rfl rfl) ?_
 iterate 2 refine gx ?_
 by_cases c1 : x.2.co = 0
 ·refine qB (qA rfl) rfl (qP (qo rfl rfl rfl) c1) ?_
  iterate 3 refine gx ?_
  by_cases c2 : x.1 ≠ 1
  ·refine qB (qJ rfl rfl rfl) rfl (qP (qs rfl rfl rfl) c2) ?_
   iterate 4 refine gx ?_
   by_cases c3 : x.1 ≠ 2
   ·refine qB (qJ rfl rfl rfl) rfl (qP (qs rfl rfl rfl) c3) ?_
    iterate 3 refine gx ?_
    refine qC [0, 2, 3, 4, 28] ?_
    refine qd rfl ?_
    iterate 3 refine gx ?_
    refine qY (ι := Unit) (V := fun _ => .tuple #[]) (R := fun _ => True) (H' := fun _ => [⟨g2, 61, [int .i64 x.1, int .i64 0, int .i64 0, int .i64 0, slice none 0 0], 5⟩, ⟨g1, 61, [int .i64 0, int .i64 0, int .i64 0, int .i64 0, slice none 0 0], 5⟩, (rE75 g A m c (rFail x.2 11 (s.k : Int)))]) (qA rfl) rfl enters36 rfl rfl (fun w hs => (rfail_s g A m c x.2 11 (s.k : Int) (by decide) w (hs.has ((rE75 g A m c x.2)) (by simp))).mono fun e w' ⟨he, hw⟩ => ⟨(), he, trivial, qi (i := 2) (e := (rE75 g A m c (rFail x.2 11 (s.k : Int)))) hs rfl rfl hw⟩) (fun _ _ => ?_)
    have hkf : kindF x.2 x.1 s.k = rFail x.2 11 (s.k : Int) := kindF_T c1 c2 c3
    have hriz := kindF_ri (kk := x.1) (a := s.k) hri.1 hrix
    rw [hkf] at hriz
    generalize hz : rFail x.2 11 (s.k : Int) = z at hkf hriz ⊢
    have hkz : z.k ≤ m := by have := hriz.1; omega
    skip
    iterate 5 refine gx ?_
    refine qY (ι := Unit) (V := fun _ => .int .i64 ((rLen B z).1)) (R := fun _ => True) (H' := fun _ => [⟨g2, 61, [int .i64 x.1, int .i64 0, int .i64 0, int .i64 0, slice none 0 0], 5⟩, ⟨g1, 61, [int .i64 0, int .i64 0, int .i64 0, int .i64 0, slice none 0 0], 5⟩, (rE75 g A m c ((rLen B z).2))]) (qA rfl) rfl enters37 rfl rfl (fun w hs => (rlen_s g A m c z w (hs.has ((rE75 g A m c z)) (by simp)) (by omega) (by omega) (by omega) B (hX.at_ hs (fun b hb hbX => (qE (by show g2 ≠ b; omega) (qE (by show g1 ≠ b; omega) (qE (fun h => hbX g (by simp) h.symm) qF))))) hBB hriz).mono fun e w' ⟨he, hw⟩ => ⟨(), he, trivial, qi (i := 2) (e := (rE75 g A m c ((rLen B z).2))) hs rfl rfl hw⟩) (fun _ _ => ?_)
    have hvt_ := rLen_val hBB z
    have hrit_ := rLen_ri hriz
    generalize ht_ : rLen B z = t_ at hvt_ hrit_ ⊢
    have hkt_ : t_.2.k ≤ m := by have := hrit_.1; omega
    skip
    refine gx ?_
    refine qw (qA rfl) rfl rfl size3 rfl rfl rfl (i := 0) rfl rfl (by simp [] <;> omega) (cs' := [int .i64 x.1, int .i64 t_.1, int .i64 0, int .i64 0, slice none 0 0]) (rfl) (H' := [⟨g2, 61, [int .i64 x.1, int .i64 t_.1, int .i64 0, int .i64 0, slice none 0 0], 5⟩, ⟨g1, 61, [int .i64 0, int .i64 0, int .i64 0, int .i64 0, slice none 0 0], 5⟩, (rE75 g A m c t_.2)]) rfl ?_
    iterate 2 refine gx ?_
    refine qC [0, 2, 4] ?_
    iterate 8 refine gx ?_
    refine qX rfl (fun hk1 => ?_) (fun hk1 => ?_)
    ·iterate 3 refine gx ?_
     refine qY (ι := Unit) (V := fun _ => .int .i64 ((rLen B t_.2).1)) (R := fun _ => True) (H' := fun _ => [⟨g2, 61, [int .i64 x.1, int .i64 t_.1, int .i64 0, int .i64 0, slice none 0 0], 5⟩, ⟨g1, 61, [int .i64 0, int .i64 0, int .i64 0, int .i64 0, slice none 0 0], 5⟩, (rE75 g A m c ((rLen B t_.2).2))]) (qA rfl) rfl enters37 rfl rfl (fun w hs => (rlen_s g A m c t_.2 w (hs.has ((rE75 g A m c t_.2)) (by simp)) (by omega) (by omega) (by omega) B (hX.at_ hs (fun b hb hbX => (qE (by show g2 ≠ b; omega) (qE (by show g1 ≠ b; omega) (qE (fun h => hbX g (by simp) h.symm) qF))))) hBB hrit_).mono fun e w' ⟨he, hw⟩ => ⟨(), he, trivial, qi (i := 2) (e := (rE75 g A m c ((rLen B t_.2).2))) hs rfl rfl hw⟩) (fun _ _ => ?_)
     have hvf_ := rLen_val hBB t_.2
     have hrif_ := rLen_ri hrit_
     generalize hf_ : rLen B t_.2 = f_ at hvf_ hrif_ ⊢
     have hkf_ : f_.2.k ≤ m := by have := hrif_.1; omega
     skip
     refine gx ?_
     refine qw (qA rfl) rfl rfl size3 rfl rfl rfl (i := 0) rfl rfl (by simp [] <;> omega) (cs' := [int .i64 x.1, int .i64 t_.1, int .i64 f_.1, int .i64 0, slice none 0 0]) (rfl) (H' := [⟨g2, 61, [int .i64 x.1, int .i64 t_.1, int .i64 f_.1, int .i64 0, slice none 0 0], 5⟩, ⟨g1, 61, [int .i64 0, int .i64 0, int .i64 0, int .i64 0, slice none 0 0], 5⟩, (rE75 g A m c f_.2)]) rfl ?_
     iterate 2 refine gx ?_
     refine qC [0, 2, 4] ?_
     iterate 2 refine gx ?_
     refine qY (ι := Unit) (V := fun _ => .int .i64 ((rLen B f_.2).1)) (R := fun _ => True) (H' := fun _ => [⟨g2, 61, [int .i64 x.1, int .i64 t_.1, int .i64 f_.1, int .i64 0, slice none 0 0], 5⟩, ⟨g1, 61, [int .i64 0, int .i64 0, int .i64 0, int .i64 0, slice none 0 0], 5⟩, (rE75 g A m c ((rLen B f_.2).2))]) (qA rfl) rfl enters37 rfl rfl (fun w hs => (rlen_s g A m c f_.2 w (hs.has ((rE75 g A m c f_.2)) (by simp)) (by omega) (by omega) (by omega) B (hX.at_ hs (fun b hb hbX => (qE (by show g2 ≠ b; omega) (qE (by show g1 ≠ b; omega) (qE (fun h => hbX g (by simp) h.symm) qF))))) hBB hrif_).mono fun e w' ⟨he, hw⟩ => ⟨(), he, trivial, qi (i := 2) (e := (rE75 g A m c ((rLen B f_.2).2))) hs rfl rfl hw⟩) (fun _ _ => ?_)
     have hvl_ := rLen_val hBB f_.2
     have hril_ := rLen_ri hrif_
     generalize hl_ : rLen B f_.2 = l_ at hvl_ hril_ ⊢
     have hkl_ : l_.2.k ≤ m := by have := hril_.1; omega
     skip
     refine gx ?_
     refine qw (qA rfl) rfl rfl size3 rfl rfl rfl (i := 0) rfl rfl (by simp [] <;> omega) (cs' := [int .i64 x.1, int .i64 t_.1, int .i64 f_.1, int .i64 l_.1, slice none 0 0]) (rfl) (H' := [⟨g2, 61, [int .i64 x.1, int .i64 t_.1, int .i64 f_.1, int .i64 l_.1, slice none 0 0], 5⟩, ⟨g1, 61, [int .i64 0, int .i64 0, int .i64 0, int .i64 0, slice none 0 0], 5⟩, (rE75 g A m c l_.2)]) rfl ?_
     iterate 9 refine gx ?_
     have e0 := rCmd_copy hx hkf ht_ hk1 hf_ hl_
     rw [e0]
     exact qu rfl agg61 size61 rfl (vs := [int .i64 x.1, int .i64 t_.1, int .i64 f_.1, int .i64 l_.1, slice none 0 0]) rfl (qQ (i := 1) (ent := ⟨g1, 61, [int .i64 x.1, int .i64 t_.1, int .i64 f_.1, int .i64 l_.1, slice none 0 0], 5⟩) rfl rfl rfl) (fun w hs => ⟨none, 0, rfl, .inl ⟨rfl, rfl, rfl⟩, ((hs.erase (i := 1) rfl (by assumption)).erase (i := 0) rfl (by assumption))⟩)
    ·iterate 3 refine gx ?_
     refine qY (ι := Unit) (V := fun _ => .int .i64 ((rLen B t_.2).1)) (R := fun _ => True) (H' := fun _ => [⟨g2, 61, [int .i64 x.1, int .i64 t_.1, int .i64 0, int .i64 0, slice none 0 0], 5⟩, ⟨g1, 61, [int .i64 0, int .i64 0, int .i64 0, int .i64 0, slice none 0 0], 5⟩, (rE75 g A m c ((rLen B t_.2).2))]) (qA rfl) rfl enters37 rfl rfl (fun w hs => (rlen_s g A m c t_.2 w (hs.has ((rE75 g A m c t_.2)) (by simp)) (by omega) (by omega) (by omega) B (hX.at_ hs (fun b hb hbX => (qE (by show g2 ≠ b; omega) (qE (by show g1 ≠ b; omega) (qE (fun h => hbX g (by simp) h.symm) qF))))) hBB hrit_).mono fun e w' ⟨he, hw⟩ => ⟨(), he, trivial, qi (i := 2) (e := (rE75 g A m c ((rLen B t_.2).2))) hs rfl rfl hw⟩) (fun _ _ => ?_)
     have hvm_ := rLen_val hBB t_.2
     have hrim_ := rLen_ri hrit_
     generalize hm_ : rLen B t_.2 = m_ at hvm_ hrim_ ⊢
     have hkm_ : m_.2.k ≤ m := by have := hrim_.1; omega
     skip
     iterate 3 refine gx ?_
     refine qC [0, 2, 4, 5] ?_
     iterate 3 refine gx ?_
     refine qY (ι := Option Addr × Nat) (V := fun y => .slice y.1 (((rBytes B m_.2 m_.1.toNat).1.length)) y.2) (R := fun y => Seg A m c B y.1 y.2 (rBytes B m_.2 m_.1.toNat).1) (H' := fun y => [⟨g2, 61, [int .i64 x.1, int .i64 t_.1, int .i64 0, int .i64 0, slice none 0 0], 5⟩, ⟨g1, 61, [int .i64 0, int .i64 0, int .i64 0, int .i64 0, slice none 0 0], 5⟩, (rE75 g A m c ((rBytes B m_.2 m_.1.toNat).2))]) (qA rfl) rfl enters38 rfl rfl (fun w hs => (rbytes_s g A m c m_.2 m_.1 (by omega) w (hs.has ((rE75 g A m c m_.2)) (by simp)) (by omega) (by omega) (by omega) B hBm).mono fun e w' ⟨A', c', he, hg, hw⟩ => ⟨(A', c'), he, hg, qi (i := 2) (e := (rE75 g A m c ((rBytes B m_.2 m_.1.toNat).2))) hs rfl rfl hw⟩) (fun y hgD_ => ?_)
     obtain ⟨AD_, cD_⟩ := y
     dsimp only at hgD_ ⊢
     have hriD_ := rBytes_ri (n := m_.1.toNat) hrim_
     generalize hD_ : rBytes B m_.2 m_.1.toNat = D_ at hgD_ hriD_ ⊢
     have hkD_ : D_.2.k ≤ m := by have := hriD_.1; omega
     have hscD_ := hgD_.cap hmc
     skip
     refine gx ?_
     refine qw (qA rfl) rfl rfl size22 rfl rfl rfl (i := 0) rfl rfl (by simp [] <;> omega) (cs' := [int .i64 x.1, int .i64 t_.1, int .i64 0, int .i64 0, slice AD_ D_.1.length cD_]) (rfl) (H' := [⟨g2, 61, [int .i64 x.1, int .i64 t_.1, int .i64 0, int .i64 0, slice AD_ D_.1.length cD_], 5⟩, ⟨g1, 61, [int .i64 0, int .i64 0, int .i64 0, int .i64 0, slice none 0 0], 5⟩, (rE75 g A m c D_.2)]) rfl ?_
     iterate 9 refine gx ?_
     have e0 := rCmd_lit hx hkf ht_ hk1 hm_ hD_
     rw [e0]
     exact qu rfl agg61 size61 rfl (vs := [int .i64 x.1, int .i64 t_.1, int .i64 0, int .i64 0, slice AD_ D_.1.length cD_]) rfl (qQ (i := 1) (ent := ⟨g1, 61, [int .i64 x.1, int .i64 t_.1, int .i64 0, int .i64 0, slice AD_ D_.1.length cD_], 5⟩) rfl rfl rfl) (fun w hs => ⟨AD_, cD_, rfl, hgD_, ((hs.erase (i := 1) rfl (by assumption)).erase (i := 0) rfl (by assumption))⟩)
   ·have hkf : kindF x.2 x.1 s.k = x.2 := kindF_F (fun h => c3 h.2.2)
    refine qB (qJ rfl rfl rfl) rfl (qU (qs rfl rfl rfl) c3) ?_
    iterate 3 refine gx ?_
    refine qC [0, 2, 3, 4, 28] ?_
    refine qW rfl ?_
    iterate 5 refine gx ?_
    refine qY (ι := Unit) (V := fun _ => .int .i64 ((rLen B x.2).1)) (R := fun _ => True) (H' := fun _ => [⟨g2, 61, [int .i64 x.1, int .i64 0, int .i64 0, int .i64 0, slice none 0 0], 5⟩, ⟨g1, 61, [int .i64 0, int .i64 0, int .i64 0, int .i64 0, slice none 0 0], 5⟩, (rE75 g A m c ((rLen B x.2).2))]) (qA rfl) rfl enters37 rfl rfl (fun w hs => (rlen_s g A m c x.2 w (hs.has ((rE75 g A m c x.2)) (by simp)) (by omega) (by omega) (by omega) B (hX.at_ hs (fun b hb hbX => (qE (by show g2 ≠ b; omega) (qE (by show g1 ≠ b; omega) (qE (fun h => hbX g (by simp) h.symm) qF))))) hBB hrix).mono fun e w' ⟨he, hw⟩ => ⟨(), he, trivial, qi (i := 2) (e := (rE75 g A m c ((rLen B x.2).2))) hs rfl rfl hw⟩) (fun _ _ => ?_)
    have hvt_ := rLen_val hBB x.2
    have hrit_ := rLen_ri hrix
    generalize ht_ : rLen B x.2 = t_ at hvt_ hrit_ ⊢
    have hkt_ : t_.2.k ≤ m := by have := hrit_.1; omega
    skip
    refine gx ?_
    refine qw (qA rfl) rfl rfl size3 rfl rfl rfl (i := 0) rfl rfl (by simp [] <;> omega) (cs' := [int .i64 x.1, int .i64 t_.1, int .i64 0, int .i64 0, slice none 0 0]) (rfl) (H' := [⟨g2, 61, [int .i64 x.1, int .i64 t_.1, int .i64 0, int .i64 0, slice none 0 0], 5⟩, ⟨g1, 61, [int .i64 0, int .i64 0, int .i64 0, int .i64 0, slice none 0 0], 5⟩, (rE75 g A m c t_.2)]) rfl ?_
    iterate 10 refine gx ?_
    refine qC [0, 2, 4, 37] ?_
    refine qX rfl (fun hk1 => ?_) (fun hk1 => ?_)
    ·iterate 3 refine gx ?_
     refine qY (ι := Unit) (V := fun _ => .int .i64 ((rLen B t_.2).1)) (R := fun _ => True) (H' := fun _ => [⟨g2, 61, [int .i64 x.1, int .i64 t_.1, int .i64 0, int .i64 0, slice none 0 0], 5⟩, ⟨g1, 61, [int .i64 0, int .i64 0, int .i64 0, int .i64 0, slice none 0 0], 5⟩, (rE75 g A m c ((rLen B t_.2).2))]) (qA rfl) rfl enters37 rfl rfl (fun w hs => (rlen_s g A m c t_.2 w (hs.has ((rE75 g A m c t_.2)) (by simp)) (by omega) (by omega) (by omega) B (hX.at_ hs (fun b hb hbX => (qE (by show g2 ≠ b; omega) (qE (by show g1 ≠ b; omega) (qE (fun h => hbX g (by simp) h.symm) qF))))) hBB hrit_).mono fun e w' ⟨he, hw⟩ => ⟨(), he, trivial, qi (i := 2) (e := (rE75 g A m c ((rLen B t_.2).2))) hs rfl rfl hw⟩) (fun _ _ => ?_)
     have hvf_ := rLen_val hBB t_.2
     have hrif_ := rLen_ri hrit_
     generalize hf_ : rLen B t_.2 = f_ at hvf_ hrif_ ⊢
     have hkf_ : f_.2.k ≤ m := by have := hrif_.1; omega
     skip
     refine gx ?_
     refine qw (qA rfl) rfl rfl size3 rfl rfl rfl (i := 0) rfl rfl (by simp [] <;> omega) (cs' := [int .i64 x.1, int .i64 t_.1, int .i64 f_.1, int .i64 0, slice none 0 0]) (rfl) (H' := [⟨g2, 61, [int .i64 x.1, int .i64 t_.1, int .i64 f_.1, int .i64 0, slice none 0 0], 5⟩, ⟨g1, 61, [int .i64 0, int .i64 0, int .i64 0, int .i64 0, slice none 0 0], 5⟩, (rE75 g A m c f_.2)]) rfl ?_
     iterate 4 refine gx ?_
     refine qY (ι := Unit) (V := fun _ => .int .i64 ((rLen B f_.2).1)) (R := fun _ => True) (H' := fun _ => [⟨g2, 61, [int .i64 x.1, int .i64 t_.1, int .i64 f_.1, int .i64 0, slice none 0 0], 5⟩, ⟨g1, 61, [int .i64 0, int .i64 0, int .i64 0, int .i64 0, slice none 0 0], 5⟩, (rE75 g A m c ((rLen B f_.2).2))]) (qA rfl) rfl enters37 rfl rfl (fun w hs => (rlen_s g A m c f_.2 w (hs.has ((rE75 g A m c f_.2)) (by simp)) (by omega) (by omega) (by omega) B (hX.at_ hs (fun b hb hbX => (qE (by show g2 ≠ b; omega) (qE (by show g1 ≠ b; omega) (qE (fun h => hbX g (by simp) h.symm) qF))))) hBB hrif_).mono fun e w' ⟨he, hw⟩ => ⟨(), he, trivial, qi (i := 2) (e := (rE75 g A m c ((rLen B f_.2).2))) hs rfl rfl hw⟩) (fun _ _ => ?_)
     have hvl_ := rLen_val hBB f_.2
     have hril_ := rLen_ri hrif_
     generalize hl_ : rLen B f_.2 = l_ at hvl_ hril_ ⊢
     have hkl_ : l_.2.k ≤ m := by have := hril_.1; omega
     skip
     refine gx ?_
     refine qw (qA rfl) rfl rfl size3 rfl rfl rfl (i := 0) rfl rfl (by simp [] <;> omega) (cs' := [int .i64 x.1, int .i64 t_.1, int .i64 f_.1, int .i64 l_.1, slice none 0 0]) (rfl) (H' := [⟨g2, 61, [int .i64 x.1, int .i64 t_.1, int .i64 f_.1, int .i64 l_.1, slice none 0 0], 5⟩, ⟨g1, 61, [int .i64 0, int .i64 0, int .i64 0, int .i64 0, slice none 0 0], 5⟩, (rE75 g A m c l_.2)]) rfl ?_
     iterate 2 refine gx ?_
     refine qC [2, 4] ?_
     iterate 7 refine gx ?_
     have e0 := rCmd_copy hx hkf ht_ hk1 hf_ hl_
     rw [e0]
     exact qu rfl agg61 size61 rfl (vs := [int .i64 x.1, int .i64 t_.1, int .i64 f_.1, int .i64 l_.1, slice none 0 0]) rfl (qQ (i := 1) (ent := ⟨g1, 61, [int .i64 x.1, int .i64 t_.1, int .i64 f_.1, int .i64 l_.1, slice none 0 0], 5⟩) rfl rfl rfl) (fun w hs => ⟨none, 0, rfl, .inl ⟨rfl, rfl, rfl⟩, ((hs.erase (i := 1) rfl (by assumption)).erase (i := 0) rfl (by assumption))⟩)
    ·iterate 3 refine gx ?_
     refine qY (ι := Unit) (V := fun _ => .int .i64 ((rLen B t_.2).1)) (R := fun _ => True) (H' := fun _ => [⟨g2, 61, [int .i64 x.1, int .i64 t_.1, int .i64 0, int .i64 0, slice none 0 0], 5⟩, ⟨g1, 61, [int .i64 0, int .i64 0, int .i64 0, int .i64 0, slice none 0 0], 5⟩, (rE75 g A m c ((rLen B t_.2).2))]) (qA rfl) rfl enters37 rfl rfl (fun w hs => (rlen_s g A m c t_.2 w (hs.has ((rE75 g A m c t_.2)) (by simp)) (by omega) (by omega) (by omega) B (hX.at_ hs (fun b hb hbX => (qE (by show g2 ≠ b; omega) (qE (by show g1 ≠ b; omega) (qE (fun h => hbX g (by simp) h.symm) qF))))) hBB hrit_).mono fun e w' ⟨he, hw⟩ => ⟨(), he, trivial, qi (i := 2) (e := (rE75 g A m c ((rLen B t_.2).2))) hs rfl rfl hw⟩) (fun _ _ => ?_)
     have hvm_ := rLen_val hBB t_.2
     have hrim_ := rLen_ri hrit_
     generalize hm_ : rLen B t_.2 = m_ at hvm_ hrim_ ⊢
     have hkm_ : m_.2.k ≤ m := by have := hrim_.1; omega
     skip
     iterate 6 refine gx ?_
     refine qY (ι := Option Addr × Nat) (V := fun y => .slice y.1 (((rBytes B m_.2 m_.1.toNat).1.length)) y.2) (R := fun y => Seg A m c B y.1 y.2 (rBytes B m_.2 m_.1.toNat).1) (H' := fun y => [⟨g2, 61, [int .i64 x.1, int .i64 t_.1, int .i64 0, int .i64 0, slice none 0 0], 5⟩, ⟨g1, 61, [int .i64 0, int .i64 0, int .i64 0, int .i64 0, slice none 0 0], 5⟩, (rE75 g A m c ((rBytes B m_.2 m_.1.toNat).2))]) (qA rfl) rfl enters38 rfl rfl (fun w hs => (rbytes_s g A m c m_.2 m_.1 (by omega) w (hs.has ((rE75 g A m c m_.2)) (by simp)) (by omega) (by omega) (by omega) B hBm).mono fun e w' ⟨A', c', he, hg, hw⟩ => ⟨(A', c'), he, hg, qi (i := 2) (e := (rE75 g A m c ((rBytes B m_.2 m_.1.toNat).2))) hs rfl rfl hw⟩) (fun y hgD_ => ?_)
     obtain ⟨AD_, cD_⟩ := y
     dsimp only at hgD_ ⊢
     have hriD_ := rBytes_ri (n := m_.1.toNat) hrim_
     generalize hD_ : rBytes B m_.2 m_.1.toNat = D_ at hgD_ hriD_ ⊢
     have hkD_ : D_.2.k ≤ m := by have := hriD_.1; omega
     have hscD_ := hgD_.cap hmc
     skip
     refine gx ?_
     refine qw (qA rfl) rfl rfl size22 rfl rfl rfl (i := 0) rfl rfl (by simp [] <;> omega) (cs' := [int .i64 x.1, int .i64 t_.1, int .i64 0, int .i64 0, slice AD_ D_.1.length cD_]) (rfl) (H' := [⟨g2, 61, [int .i64 x.1, int .i64 t_.1, int .i64 0, int .i64 0, slice AD_ D_.1.length cD_], 5⟩, ⟨g1, 61, [int .i64 0, int .i64 0, int .i64 0, int .i64 0, slice none 0 0], 5⟩, (rE75 g A m c D_.2)]) rfl ?_
     iterate 2 refine gx ?_
     refine qC [2, 4] ?_
     iterate 7 refine gx ?_
     have e0 := rCmd_lit hx hkf ht_ hk1 hm_ hD_
     rw [e0]
     exact qu rfl agg61 size61 rfl (vs := [int .i64 x.1, int .i64 t_.1, int .i64 0, int .i64 0, slice AD_ D_.1.length cD_]) rfl (qQ (i := 1) (ent := ⟨g1, 61, [int .i64 x.1, int .i64 t_.1, int .i64 0, int .i64 0, slice AD_ D_.1.length cD_], 5⟩) rfl rfl rfl) (fun w hs => ⟨AD_, cD_, rfl, hgD_, ((hs.erase (i := 1) rfl (by assumption)).erase (i := 0) rfl (by assumption))⟩)
  ·have hkf : kindF x.2 x.1 s.k = x.2 := kindF_F (fun h => c2 h.2.1)
   refine qB (qJ rfl rfl rfl) rfl (qU (qs rfl rfl rfl) c2) ?_
   iterate 8 refine gx ?_
   refine qC [0, 2, 3, 4, 28] ?_
   refine qW rfl ?_
   iterate 5 refine gx ?_
   refine qY (ι := Unit) (V := fun _ => .int .i64 ((rLen B x.2).1)) (R := fun _ => True) (H' := fun _ => [⟨g2, 61, [int .i64 x.1, int .i64 0, int .i64 0, int .i64 0, slice none 0 0], 5⟩, ⟨g1, 61, [int .i64 0, int .i64 0, int .i64 0, int .i64 0, slice none 0 0], 5⟩, (rE75 g A m c ((rLen B x.2).2))]) (qA rfl) rfl enters37 rfl rfl (fun w hs => (rlen_s g A m c x.2 w (hs.has ((rE75 g A m c x.2)) (by simp)) (by omega) (by omega) (by omega) B (hX.at_ hs (fun b hb hbX => (qE (by show g2 ≠ b; omega) (qE (by show g1 ≠ b; omega) (qE (fun h => hbX g (by simp) h.symm) qF))))) hBB hrix).mono fun e w' ⟨he, hw⟩ => ⟨(), he, trivial, qi (i := 2) (e := (rE75 g A m c ((rLen B x.2).2))) hs rfl rfl hw⟩) (fun _ _ => ?_)
   have hvt_ := rLen_val hBB x.2
   have hrit_ := rLen_ri hrix
   generalize ht_ : rLen B x.2 = t_ at hvt_ hrit_ ⊢
   have hkt_ : t_.2.k ≤ m := by have := hrit_.1; omega
   skip
   refine gx ?_
   refine qw (qA rfl) rfl rfl size3 rfl rfl rfl (i := 0) rfl rfl (by simp [] <;> omega) (cs' := [int .i64 x.1, int .i64 t_.1, int .i64 0, int .i64 0, slice none 0 0]) (rfl) (H' := [⟨g2, 61, [int .i64 x.1, int .i64 t_.1, int .i64 0, int .i64 0, slice none 0 0], 5⟩, ⟨g1, 61, [int .i64 0, int .i64 0, int .i64 0, int .i64 0, slice none 0 0], 5⟩, (rE75 g A m c t_.2)]) rfl ?_
   iterate 10 refine gx ?_
   refine qC [0, 2, 4, 37] ?_
   refine qX rfl (fun hk1 => ?_) (fun hk1 => ?_)
   ·iterate 3 refine gx ?_
    refine qY (ι := Unit) (V := fun _ => .int .i64 ((rLen B t_.2).1)) (R := fun _ => True) (H' := fun _ => [⟨g2, 61, [int .i64 x.1, int .i64 t_.1, int .i64 0, int .i64 0, slice none 0 0], 5⟩, ⟨g1, 61, [int .i64 0, int .i64 0, int .i64 0, int .i64 0, slice none 0 0], 5⟩, (rE75 g A m c ((rLen B t_.2).2))]) (qA rfl) rfl enters37 rfl rfl (fun w hs => (rlen_s g A m c t_.2 w (hs.has ((rE75 g A m c t_.2)) (by simp)) (by omega) (by omega) (by omega) B (hX.at_ hs (fun b hb hbX => (qE (by show g2 ≠ b; omega) (qE (by show g1 ≠ b; omega) (qE (fun h => hbX g (by simp) h.symm) qF))))) hBB hrit_).mono fun e w' ⟨he, hw⟩ => ⟨(), he, trivial, qi (i := 2) (e := (rE75 g A m c ((rLen B t_.2).2))) hs rfl rfl hw⟩) (fun _ _ => ?_)
    have hvf_ := rLen_val hBB t_.2
    have hrif_ := rLen_ri hrit_
    generalize hf_ : rLen B t_.2 = f_ at hvf_ hrif_ ⊢
    have hkf_ : f_.2.k ≤ m := by have := hrif_.1; omega
    skip
    refine gx ?_
    refine qw (qA rfl) rfl rfl size3 rfl rfl rfl (i := 0) rfl rfl (by simp [] <;> omega) (cs' := [int .i64 x.1, int .i64 t_.1, int .i64 f_.1, int .i64 0, slice none 0 0]) (rfl) (H' := [⟨g2, 61, [int .i64 x.1, int .i64 t_.1, int .i64 f_.1, int .i64 0, slice none 0 0], 5⟩, ⟨g1, 61, [int .i64 0, int .i64 0, int .i64 0, int .i64 0, slice none 0 0], 5⟩, (rE75 g A m c f_.2)]) rfl ?_
    iterate 4 refine gx ?_
    refine qY (ι := Unit) (V := fun _ => .int .i64 ((rLen B f_.2).1)) (R := fun _ => True) (H' := fun _ => [⟨g2, 61, [int .i64 x.1, int .i64 t_.1, int .i64 f_.1, int .i64 0, slice none 0 0], 5⟩, ⟨g1, 61, [int .i64 0, int .i64 0, int .i64 0, int .i64 0, slice none 0 0], 5⟩, (rE75 g A m c ((rLen B f_.2).2))]) (qA rfl) rfl enters37 rfl rfl (fun w hs => (rlen_s g A m c f_.2 w (hs.has ((rE75 g A m c f_.2)) (by simp)) (by omega) (by omega) (by omega) B (hX.at_ hs (fun b hb hbX => (qE (by show g2 ≠ b; omega) (qE (by show g1 ≠ b; omega) (qE (fun h => hbX g (by simp) h.symm) qF))))) hBB hrif_).mono fun e w' ⟨he, hw⟩ => ⟨(), he, trivial, qi (i := 2) (e := (rE75 g A m c ((rLen B f_.2).2))) hs rfl rfl hw⟩) (fun _ _ => ?_)
    have hvl_ := rLen_val hBB f_.2
    have hril_ := rLen_ri hrif_
    generalize hl_ : rLen B f_.2 = l_ at hvl_ hril_ ⊢
    have hkl_ : l_.2.k ≤ m := by have := hril_.1; omega
    skip
    refine gx ?_
    refine qw (qA rfl) rfl rfl size3 rfl rfl rfl (i := 0) rfl rfl (by simp [] <;> omega) (cs' := [int .i64 x.1, int .i64 t_.1, int .i64 f_.1, int .i64 l_.1, slice none 0 0]) (rfl) (H' := [⟨g2, 61, [int .i64 x.1, int .i64 t_.1, int .i64 f_.1, int .i64 l_.1, slice none 0 0], 5⟩, ⟨g1, 61, [int .i64 0, int .i64 0, int .i64 0, int .i64 0, slice none 0 0], 5⟩, (rE75 g A m c l_.2)]) rfl ?_
    iterate 2 refine gx ?_
    refine qC [2, 4] ?_
    iterate 7 refine gx ?_
    have e0 := rCmd_copy hx hkf ht_ hk1 hf_ hl_
    rw [e0]
    exact qu rfl agg61 size61 rfl (vs := [int .i64 x.1, int .i64 t_.1, int .i64 f_.1, int .i64 l_.1, slice none 0 0]) rfl (qQ (i := 1) (ent := ⟨g1, 61, [int .i64 x.1, int .i64 t_.1, int .i64 f_.1, int .i64 l_.1, slice none 0 0], 5⟩) rfl rfl rfl) (fun w hs => ⟨none, 0, rfl, .inl ⟨rfl, rfl, rfl⟩, ((hs.erase (i := 1) rfl (by assumption)).erase (i := 0) rfl (by assumption))⟩)
   ·iterate 3 refine gx ?_
    refine qY (ι := Unit) (V := fun _ => .int .i64 ((rLen B t_.2).1)) (R := fun _ => True) (H' := fun _ => [⟨g2, 61, [int .i64 x.1, int .i64 t_.1, int .i64 0, int .i64 0, slice none 0 0], 5⟩, ⟨g1, 61, [int .i64 0, int .i64 0, int .i64 0, int .i64 0, slice none 0 0], 5⟩, (rE75 g A m c ((rLen B t_.2).2))]) (qA rfl) rfl enters37 rfl rfl (fun w hs => (rlen_s g A m c t_.2 w (hs.has ((rE75 g A m c t_.2)) (by simp)) (by omega) (by omega) (by omega) B (hX.at_ hs (fun b hb hbX => (qE (by show g2 ≠ b; omega) (qE (by show g1 ≠ b; omega) (qE (fun h => hbX g (by simp) h.symm) qF))))) hBB hrit_).mono fun e w' ⟨he, hw⟩ => ⟨(), he, trivial, qi (i := 2) (e := (rE75 g A m c ((rLen B t_.2).2))) hs rfl rfl hw⟩) (fun _ _ => ?_)
    have hvm_ := rLen_val hBB t_.2
    have hrim_ := rLen_ri hrit_
    generalize hm_ : rLen B t_.2 = m_ at hvm_ hrim_ ⊢
    have hkm_ : m_.2.k ≤ m := by have := hrim_.1; omega
    skip
    iterate 6 refine gx ?_
    refine qY (ι := Option Addr × Nat) (V := fun y => .slice y.1 (((rBytes B m_.2 m_.1.toNat).1.length)) y.2) (R := fun y => Seg A m c B y.1 y.2 (rBytes B m_.2 m_.1.toNat).1) (H' := fun y => [⟨g2, 61, [int .i64 x.1, int .i64 t_.1, int .i64 0, int .i64 0, slice none 0 0], 5⟩, ⟨g1, 61, [int .i64 0, int .i64 0, int .i64 0, int .i64 0, slice none 0 0], 5⟩, (rE75 g A m c ((rBytes B m_.2 m_.1.toNat).2))]) (qA rfl) rfl enters38 rfl rfl (fun w hs => (rbytes_s g A m c m_.2 m_.1 (by omega) w (hs.has ((rE75 g A m c m_.2)) (by simp)) (by omega) (by omega) (by omega) B hBm).mono fun e w' ⟨A', c', he, hg, hw⟩ => ⟨(A', c'), he, hg, qi (i := 2) (e := (rE75 g A m c ((rBytes B m_.2 m_.1.toNat).2))) hs rfl rfl hw⟩) (fun y hgD_ => ?_)
    obtain ⟨AD_, cD_⟩ := y
    dsimp only at hgD_ ⊢
    have hriD_ := rBytes_ri (n := m_.1.toNat) hrim_
    generalize hD_ : rBytes B m_.2 m_.1.toNat = D_ at hgD_ hriD_ ⊢
    have hkD_ : D_.2.k ≤ m := by have := hriD_.1; omega
    have hscD_ := hgD_.cap hmc
    skip
    refine gx ?_
    refine qw (qA rfl) rfl rfl size22 rfl rfl rfl (i := 0) rfl rfl (by simp [] <;> omega) (cs' := [int .i64 x.1, int .i64 t_.1, int .i64 0, int .i64 0, slice AD_ D_.1.length cD_]) (rfl) (H' := [⟨g2, 61, [int .i64 x.1, int .i64 t_.1, int .i64 0, int .i64 0, slice AD_ D_.1.length cD_], 5⟩, ⟨g1, 61, [int .i64 0, int .i64 0, int .i64 0, int .i64 0, slice none 0 0], 5⟩, (rE75 g A m c D_.2)]) rfl ?_
    iterate 2 refine gx ?_
    refine qC [2, 4] ?_
    iterate 7 refine gx ?_
    have e0 := rCmd_lit hx hkf ht_ hk1 hm_ hD_
    rw [e0]
    exact qu rfl agg61 size61 rfl (vs := [int .i64 x.1, int .i64 t_.1, int .i64 0, int .i64 0, slice AD_ D_.1.length cD_]) rfl (qQ (i := 1) (ent := ⟨g1, 61, [int .i64 x.1, int .i64 t_.1, int .i64 0, int .i64 0, slice AD_ D_.1.length cD_], 5⟩) rfl rfl rfl) (fun w hs => ⟨AD_, cD_, rfl, hgD_, ((hs.erase (i := 1) rfl (by assumption)).erase (i := 0) rfl (by assumption))⟩)
 ·have hkf : kindF x.2 x.1 s.k = x.2 := kindF_F (fun h => c1 h.1)
  refine qB (qA rfl) rfl (qU (qo rfl rfl rfl) c1) ?_
  iterate 12 refine gx ?_
  refine qC [0, 2, 3, 4, 28] ?_
  refine qW rfl ?_
  iterate 5 refine gx ?_
  refine qY (ι := Unit) (V := fun _ => .int .i64 ((rLen B x.2).1)) (R := fun _ => True) (H' := fun _ => [⟨g2, 61, [int .i64 x.1, int .i64 0, int .i64 0, int .i64 0, slice none 0 0], 5⟩, ⟨g1, 61, [int .i64 0, int .i64 0, int .i64 0, int .i64 0, slice none 0 0], 5⟩, (rE75 g A m c ((rLen B x.2).2))]) (qA rfl) rfl enters37 rfl rfl (fun w hs => (rlen_s g A m c x.2 w (hs.has ((rE75 g A m c x.2)) (by simp)) (by omega) (by omega) (by omega) B (hX.at_ hs (fun b hb hbX => (qE (by show g2 ≠ b; omega) (qE (by show g1 ≠ b; omega) (qE (fun h => hbX g (by simp) h.symm) qF))))) hBB hrix).mono fun e w' ⟨he, hw⟩ => ⟨(), he, trivial, qi (i := 2) (e := (rE75 g A m c ((rLen B x.2).2))) hs rfl rfl hw⟩) (fun _ _ => ?_)
  have hvt_ := rLen_val hBB x.2
  have hrit_ := rLen_ri hrix
  generalize ht_ : rLen B x.2 = t_ at hvt_ hrit_ ⊢
  have hkt_ : t_.2.k ≤ m := by have := hrit_.1; omega
  skip
  refine gx ?_
  refine qw (qA rfl) rfl rfl size3 rfl rfl rfl (i := 0) rfl rfl (by simp [] <;> omega) (cs' := [int .i64 x.1, int .i64 t_.1, int .i64 0, int .i64 0, slice none 0 0]) (rfl) (H' := [⟨g2, 61, [int .i64 x.1, int .i64 t_.1, int .i64 0, int .i64 0, slice none 0 0], 5⟩, ⟨g1, 61, [int .i64 0, int .i64 0, int .i64 0, int .i64 0, slice none 0 0], 5⟩, (rE75 g A m c t_.2)]) rfl ?_
  iterate 10 refine gx ?_
  refine qC [0, 2, 4, 37] ?_
  refine qX rfl (fun hk1 => ?_) (fun hk1 => ?_)
  ·iterate 3 refine gx ?_
   refine qY (ι := Unit) (V := fun _ => .int .i64 ((rLen B t_.2).1)) (R := fun _ => True) (H' := fun _ => [⟨g2, 61, [int .i64 x.1, int .i64 t_.1, int .i64 0, int .i64 0, slice none 0 0], 5⟩, ⟨g1, 61, [int .i64 0, int .i64 0, int .i64 0, int .i64 0, slice none 0 0], 5⟩, (rE75 g A m c ((rLen B t_.2).2))]) (qA rfl) rfl enters37 rfl rfl (fun w hs => (rlen_s g A m c t_.2 w (hs.has ((rE75 g A m c t_.2)) (by simp)) (by omega) (by omega) (by omega) B (hX.at_ hs (fun b hb hbX => (qE (by show g2 ≠ b; omega) (qE (by show g1 ≠ b; omega) (qE (fun h => hbX g (by simp) h.symm) qF))))) hBB hrit_).mono fun e w' ⟨he, hw⟩ => ⟨(), he, trivial, qi (i := 2) (e := (rE75 g A m c ((rLen B t_.2).2))) hs rfl rfl hw⟩) (fun _ _ => ?_)
   have hvf_ := rLen_val hBB t_.2
   have hrif_ := rLen_ri hrit_
   generalize hf_ : rLen B t_.2 = f_ at hvf_ hrif_ ⊢
   have hkf_ : f_.2.k ≤ m := by have := hrif_.1; omega
   skip
   refine gx ?_
   refine qw (qA rfl) rfl rfl size3 rfl rfl rfl (i := 0) rfl rfl (by simp [] <;> omega) (cs' := [int .i64 x.1, int .i64 t_.1, int .i64 f_.1, int .i64 0, slice none 0 0]) (rfl) (H' := [⟨g2, 61, [int .i64 x.1, int .i64 t_.1, int .i64 f_.1, int .i64 0, slice none 0 0], 5⟩, ⟨g1, 61, [int .i64 0, int .i64 0, int .i64 0, int .i64 0, slice none 0 0], 5⟩, (rE75 g A m c f_.2)]) rfl ?_
   iterate 4 refine gx ?_
   refine qY (ι := Unit) (V := fun _ => .int .i64 ((rLen B f_.2).1)) (R := fun _ => True) (H' := fun _ => [⟨g2, 61, [int .i64 x.1, int .i64 t_.1, int .i64 f_.1, int .i64 0, slice none 0 0], 5⟩, ⟨g1, 61, [int .i64 0, int .i64 0, int .i64 0, int .i64 0, slice none 0 0], 5⟩, (rE75 g A m c ((rLen B f_.2).2))]) (qA rfl) rfl enters37 rfl rfl (fun w hs => (rlen_s g A m c f_.2 w (hs.has ((rE75 g A m c f_.2)) (by simp)) (by omega) (by omega) (by omega) B (hX.at_ hs (fun b hb hbX => (qE (by show g2 ≠ b; omega) (qE (by show g1 ≠ b; omega) (qE (fun h => hbX g (by simp) h.symm) qF))))) hBB hrif_).mono fun e w' ⟨he, hw⟩ => ⟨(), he, trivial, qi (i := 2) (e := (rE75 g A m c ((rLen B f_.2).2))) hs rfl rfl hw⟩) (fun _ _ => ?_)
   have hvl_ := rLen_val hBB f_.2
   have hril_ := rLen_ri hrif_
   generalize hl_ : rLen B f_.2 = l_ at hvl_ hril_ ⊢
   have hkl_ : l_.2.k ≤ m := by have := hril_.1; omega
   skip
   refine gx ?_
   refine qw (qA rfl) rfl rfl size3 rfl rfl rfl (i := 0) rfl rfl (by simp [] <;> omega) (cs' := [int .i64 x.1, int .i64 t_.1, int .i64 f_.1, int .i64 l_.1, slice none 0 0]) (rfl) (H' := [⟨g2, 61, [int .i64 x.1, int .i64 t_.1, int .i64 f_.1, int .i64 l_.1, slice none 0 0], 5⟩, ⟨g1, 61, [int .i64 0, int .i64 0, int .i64 0, int .i64 0, slice none 0 0], 5⟩, (rE75 g A m c l_.2)]) rfl ?_
   iterate 2 refine gx ?_
   refine qC [2, 4] ?_
   iterate 7 refine gx ?_
   have e0 := rCmd_copy hx hkf ht_ hk1 hf_ hl_
   rw [e0]
   exact qu rfl agg61 size61 rfl (vs := [int .i64 x.1, int .i64 t_.1, int .i64 f_.1, int .i64 l_.1, slice none 0 0]) rfl (qQ (i := 1) (ent := ⟨g1, 61, [int .i64 x.1, int .i64 t_.1, int .i64 f_.1, int .i64 l_.1, slice none 0 0], 5⟩) rfl rfl rfl) (fun w hs => ⟨none, 0, rfl, .inl ⟨rfl, rfl, rfl⟩, ((hs.erase (i := 1) rfl (by assumption)).erase (i := 0) rfl (by assumption))⟩)
  ·iterate 3 refine gx ?_
   refine qY (ι := Unit) (V := fun _ => .int .i64 ((rLen B t_.2).1)) (R := fun _ => True) (H' := fun _ => [⟨g2, 61, [int .i64 x.1, int .i64 t_.1, int .i64 0, int .i64 0, slice none 0 0], 5⟩, ⟨g1, 61, [int .i64 0, int .i64 0, int .i64 0, int .i64 0, slice none 0 0], 5⟩, (rE75 g A m c ((rLen B t_.2).2))]) (qA rfl) rfl enters37 rfl rfl (fun w hs => (rlen_s g A m c t_.2 w (hs.has ((rE75 g A m c t_.2)) (by simp)) (by omega) (by omega) (by omega) B (hX.at_ hs (fun b hb hbX => (qE (by show g2 ≠ b; omega) (qE (by show g1 ≠ b; omega) (qE (fun h => hbX g (by simp) h.symm) qF))))) hBB hrit_).mono fun e w' ⟨he, hw⟩ => ⟨(), he, trivial, qi (i := 2) (e := (rE75 g A m c ((rLen B t_.2).2))) hs rfl rfl hw⟩) (fun _ _ => ?_)
   have hvm_ := rLen_val hBB t_.2
   have hrim_ := rLen_ri hrit_
   generalize hm_ : rLen B t_.2 = m_ at hvm_ hrim_ ⊢
   have hkm_ : m_.2.k ≤ m := by have := hrim_.1; omega
   skip
   iterate 6 refine gx ?_
   refine qY (ι := Option Addr × Nat) (V := fun y => .slice y.1 (((rBytes B m_.2 m_.1.toNat).1.length)) y.2) (R := fun y => Seg A m c B y.1 y.2 (rBytes B m_.2 m_.1.toNat).1) (H' := fun y => [⟨g2, 61, [int .i64 x.1, int .i64 t_.1, int .i64 0, int .i64 0, slice none 0 0], 5⟩, ⟨g1, 61, [int .i64 0, int .i64 0, int .i64 0, int .i64 0, slice none 0 0], 5⟩, (rE75 g A m c ((rBytes B m_.2 m_.1.toNat).2))]) (qA rfl) rfl enters38 rfl rfl (fun w hs => (rbytes_s g A m c m_.2 m_.1 (by omega) w (hs.has ((rE75 g A m c m_.2)) (by simp)) (by omega) (by omega) (by omega) B hBm).mono fun e w' ⟨A', c', he, hg, hw⟩ => ⟨(A', c'), he, hg, qi (i := 2) (e := (rE75 g A m c ((rBytes B m_.2 m_.1.toNat).2))) hs rfl rfl hw⟩) (fun y hgD_ => ?_)
   obtain ⟨AD_, cD_⟩ := y
   dsimp only at hgD_ ⊢
   have hriD_ := rBytes_ri (n := m_.1.toNat) hrim_
   generalize hD_ : rBytes B m_.2 m_.1.toNat = D_ at hgD_ hriD_ ⊢
   have hkD_ : D_.2.k ≤ m := by have := hriD_.1; omega
   have hscD_ := hgD_.cap hmc
   skip
   refine gx ?_
   refine qw (qA rfl) rfl rfl size22 rfl rfl rfl (i := 0) rfl rfl (by simp [] <;> omega) (cs' := [int .i64 x.1, int .i64 t_.1, int .i64 0, int .i64 0, slice AD_ D_.1.length cD_]) (rfl) (H' := [⟨g2, 61, [int .i64 x.1, int .i64 t_.1, int .i64 0, int .i64 0, slice AD_ D_.1.length cD_], 5⟩, ⟨g1, 61, [int .i64 0, int .i64 0, int .i64 0, int .i64 0, slice none 0 0], 5⟩, (rE75 g A m c D_.2)]) rfl ?_
   iterate 2 refine gx ?_
   refine qC [2, 4] ?_
   iterate 7 refine gx ?_
   have e0 := rCmd_lit hx hkf ht_ hk1 hm_ hD_
   rw [e0]
   exact qu rfl agg61 size61 rfl (vs := [int .i64 x.1, int .i64 t_.1, int .i64 0, int .i64 0, slice AD_ D_.1.length cD_]) rfl (qQ (i := 1) (ent := ⟨g1, 61, [int .i64 x.1, int .i64 t_.1, int .i64 0, int .i64 0, slice AD_ D_.1.length cD_], 5⟩) rfl rfl rfl) (fun w hs => ⟨AD_, cD_, rfl, hgD_, ((hs.erase (i := 1) rfl (by assumption)).erase (i := 0) rfl (by assumption))⟩)
/-
 The reference of layer 7: in, Wrong.
-/
def okK (x : CV) : Prop := x.k = 1 ∨ x.k = 2
def okV (x : CV) : Prop := inR x.t ∧ inR x.f ∧ inR x.l ∧ ¬ (x.k = 1 ∧ 0 < x.m) ∧ ¬ (x.k = 2 ∧ (x.f ≠ 0 ∨ x.l ≠ 0))
open Classical in
noncomputable def wrongI (o n : Int) (Cs : List CV) : Int :=
 if ∀ (i : Nat) (x : CV), Cs[i]? = some x → okK x then (if inR o ∧ inR n then (if ∀ (i : Nat) (x : CV), Cs[i]? = some x → okV x then 0 else 2) else 2) else 11
theorem wrongI_len {o n : Int} {Cs : List CV} (hk : ∀ (i : Nat) (x : CV), Cs[i]? = some x → okK x) (h : ¬ (inR o ∧ inR n)) : wrongI o n Cs = 2 := by
 unfold wrongI; rw [if_pos hk, if_neg h]
theorem wrongI_0 {o n : Int} {Cs : List CV} (hk : ∀ (i : Nat) (x : CV), Cs[i]? = some x → okK x) (hl : inR o ∧ inR n) (h : ∀ (i : Nat) (x : CV), Cs[i]? = some x → okV x) : wrongI o n Cs = 0 := by
 unfold wrongI; rw [if_pos hk, if_pos hl, if_pos h]
theorem wrongI_ok {o n : Int} {Cs : List CV} (h : wrongI o n Cs = 0) : (∀ (i : Nat) (x : CV), Cs[i]? = some x → okK x) ∧ (inR o ∧ inR n) ∧ ∀ (i : Nat) (x : CV), Cs[i]? = some x → okV x := by
 unfold wrongI at h
 by_cases h1 : ∀ (i : Nat) (x : CV), Cs[i]? = some x → okK x
 ·rw [if_pos h1] at h
  by_cases h2 : inR o ∧ inR n
  ·rw [if_pos h2] at h
   by_cases h3 : ∀ (i : Nat) (x : CV), Cs[i]? = some x → okV x
   ·exact ⟨h1, h2, h3⟩
   ·rw [if_neg h3] at h; cases h
  ·rw [if_neg h2] at h; cases h
 ·rw [if_neg h1] at h; cases h
section
variable {P : Program} {ops : Array Oper} {Q : Exit → Act → World → Prop} {n : Sz} {w0 : World} {L L' : List (Nat × Value)} {HB H : List Ent}
variable {o : Oper} {rest : List Oper} {v u : Value} {x y z : Operand} {k m j : Nat} {t t' e : TypeId} {ks : List Nat} {kd : IntKind}
theorem TP.value {ι : Type} {V : ι → Value} {R : ι → Prop} {H' : ι → List Ent} (hg : Wants n ops L o) (hi : inside n o.dst = true)
  (h : ∀ a w, Fr n L a → St w0 (HB ++ H) w → ∃ i w', (execOp a.eval o).run P w = .ok (.value (V i)) w' ∧ R i ∧ St w0 (HB ++ H' i) w')
  (hr : ∀ i, R i → TP P ops Q n w0 HB ks rest (put L o.dst (V i)) (H' i)) : TP P ops Q n w0 HB (3 :: ks) (o :: rest) L H :=
 fun a hf => .inr <| .inl ⟨rfl, fun v S' => ∃ i, R i ∧ v = V i ∧ S' = St w0 (HB ++ H' i), fun w hs => by
  obtain ⟨i, w', h1, h2, h3⟩ := h a w hf hs
  exact ⟨.inl ⟨V i, w', _, h1, ⟨i, h2, rfl, rfl⟩, h3⟩, hg a hf⟩,
  fun v S' ⟨i, hR, h1, h2⟩ => by subst h1; subst h2; exact ⟨fun w hw => ⟨H' i, hw⟩, hr i hR _ (hf.put o.dst _ hi)⟩⟩
theorem TP.buildSlice {len s : Nat} {ps : List (Nat × Operand)} {vs : List (Nat × Value)} {cells : Array Value} {cs : List Value} {zv : Value} (hg : Wants n ops L o) (hi : inside n o.dst = true) (ho : o.op = .buildSlice t len ps.toArray)
  (h1 : P.underlying t = some (.slice e)) (hsz : (P.info? e).map (·.size) = some s) (hz : (P.info? e).bind (·.zero) = some zv) (hv : operVals L ps = some vs) (hlen : len * s ≤ 2 ^ 24) (hpos : (len * s = 0) = False)
  {tot : Nat} (hfill : Instr.fill (fun i => some (i * s, s)) ((Array.range (len * s)).map (zv.cells[· % zv.cells.size]!)) vs = some cells) (hcs : cells.toList = cs) (htot : cs.length = tot)
  (hr : ∀ g, w0.heap.size ≤ g → TP P ops Q n w0 HB ks rest (put L o.dst (.slice (some ⟨g, 0, none⟩) len len)) (⟨g, e, cs, tot⟩ :: H)) : TP P ops Q n w0 HB (3 :: ks) (o :: rest) L H := by
 refine TP.value (ι := Nat) (V := fun g => .slice (some ⟨g, 0, none⟩) len len) (R := fun g => w0.heap.size ≤ g) (H' := fun g => ⟨g, e, cs, tot⟩ :: H) hg hi (fun a w hf hs => ?_) hr
 have hrun : (execOp a.eval o).run P w = .ok (.value (.slice (some ⟨w.heap.size, 0, none⟩) len len)) (w.alloc (.cells cells e)) := by
  have hm := operVals_eval hf hv
  have hm2 : (ps.map fun (x : Nat × Operand) => match x with | (i, x) => (i, a.eval x)) = vs := hm
  simp only [execOp, ho]
  refine run_value ?_
  simp only [Instr.buildSlice, Sem.run_bind, run_under h1, Result.andThen_ok, run_size hsz, List.map_toArray, hm2]
  rw [if_neg (by omega), if_neg (by simp [hpos])]
  simp only [Sem.run_bind, run_zero hz, Result.andThen_ok, Sem.run_pure, hfill]
  simp [newRow, newObj, Sem.run_bind, Sem.run]
 subst htot
 exact ⟨w.heap.size, _, hrun, hs.size, (hs.alloc e cs cells hcs).perm List.perm_middle.symm⟩
theorem TP.appendS {As : Option Addr} {s nn sc bytes : Nat} {cs news : List Value} {H0 He : List Ent} {zv : Value} (hg : Wants n ops L o) (hi' : inside n o.dst = true) (ho : o.op = .call { callee := .builtin .append, args := #[x, y], argTypes := #[t, t] })
  (h1 : P.underlying t = some (.slice e)) (hz : (P.info? e).map (fun i => (i.zero, i.size, i.bytes)) = some (some zv, s, bytes)) (hzc : zv.cells.size = s) (hs0 : 0 < s)
  (hx : ev L x = some v) (hy : ev L y = some (.slice As m sc)) (hown : OwnS w0.heap.size e s v nn cs He) (hl : news.length = m * s) (hsrc : ∀ w, St w0 (HB ++ (H0 ++ He)) w → SrcV w As m news) (h1c : ∀ u ∈ news, u.oneCell' = true)
  (h63 : nn + m ≤ maxLen) (hbytes : (nn + m) * bytes ≤ 140737488355328)
  (hr : ∀ v' He', OwnS w0.heap.size e s v' (nn + m) (cs ++ news) He' → TP P ops Q n w0 HB ks rest (put L o.dst v') (H0 ++ He')) : TP P ops Q n w0 HB (3 :: ks) (o :: rest) L (H0 ++ He) := by
 refine TP.value (ι := Value × List Ent) (V := fun y => y.1) (R := fun y => OwnS w0.heap.size e s y.1 (nn + m) (cs ++ news) y.2) (H' := fun y => H0 ++ y.2) hg hi' (fun a w hf hs => ?_) (fun y hR => hr y.1 y.2 hR)
 have hs2 : St w0 ((HB ++ H0) ++ He) w := by rw [List.append_assoc]; exact hs
 obtain ⟨v', w', He', hrun, hown', hst⟩ := run_appendS (P := P) (t := t) (ty := o.type) (sc := sc) h1 hz hzc hs0 hown hs2 (Nat.le_refl _) (Nat.le_refl _) hl (hsrc w hs) h1c h63 hbytes (fun _ => rfl)
 have hrun' : (execOp a.eval o).run P w = .ok (.value v') w' := by
  simp only [execOp, ho, resolve, invoke, builtin, Sem.run_bind, Sem.run_pure, Result.andThen_ok, List.map_toArray, List.map_cons, List.map_nil, hf.eval hx, hf.eval hy, hrun]
 exact ⟨(v', He'), w', hrun', hown', by rw [List.append_assoc] at hst; exact hst⟩
theorem TP.store1 {i g off : Nat} {ent : Ent} (hg : Wants n ops L o) (hd : o.dst = none) (ho : o.op = .store t x y) (hsz : (P.info? t).map (·.size) = some 1)
  (hx : ev L x = some (.pointer (some ⟨g, off, none⟩))) (hy : ev L y = some v) (hv : v.oneCell' = true) (hi : (HB ++ H)[i]? = some ent) (he : ent.g = g) (hoff : off < ent.cs.length)
  {cs' : List Value} (hcs : ent.cs.set off v = cs') {H' : List Ent} (hH : (HB ++ H).set i ⟨ent.g, ent.t, cs', ent.tot⟩ = HB ++ H') (hr : TP P ops Q n w0 HB ks rest L H') : TP P ops Q n w0 HB (8 :: ks) (o :: rest) L H :=
 fun a hf => .inr (.inr (.inr ⟨rfl, St w0 (HB ++ H'), ⟨hd, fun w hs => ⟨by
  subst he
  subst hcs
  rw [← hH]
  refine ⟨w.setCell ⟨ent.g, off, none⟩ v, ?_, hs.set hi off v⟩
  simp only [execOp, ho, hf.eval hx, hf.eval hy]
  refine run_unit ?_
  have hl := hs.has ent (List.mem_of_getElem? hi)
  have hc := hl.cell (o := off) (List.getElem?_eq_getElem hoff)
  have hfz := hl.free off
  simp only [Instr.storeAt, Instr.sureAddr, storeVar, Sem.run_bind, Sem.run_pure, Result.andThen_ok, run_size hsz, oneCell_cells hv]
  simp only [List.size_toArray, List.length_cons, List.length_nil, Nat.zero_add, ne_eq, not_true_eq_false, if_false, storeCells, Sem.run_bind, Addr.add, if_true, store]
  cases v <;> first | (simp [Value.oneCell'] at hv; done) | simp [Sem.run, hc, hfz], hg a hf⟩⟩, fun w hs => ⟨H', hs⟩, hr a hf⟩))
theorem TP.last1 {i g off : Nat} {ent : Ent} (hg : Wants n ops L o) (hd : o.dst = none) (ho : o.op = .store t x y) (hsz : (P.info? t).map (·.size) = some 1)
  (hx : ev L x = some (.pointer (some ⟨g, off, none⟩))) (hy : ev L y = some v) (hv : v.oneCell' = true) (hi : (HB ++ H)[i]? = some ent) (he : ent.g = g) (hoff : off < ent.cs.length)
  {cs' : List Value} (hcs : ent.cs.set off v = cs') {H' : List Ent} (hH : (HB ++ H).set i ⟨ent.g, ent.t, cs', ent.tot⟩ = H') (hr : TE Q .normal n w0 L H') : TP P ops Q n w0 HB [7] [o] L H :=
 fun a hf => .inr (.inr (.inl ⟨rfl, St w0 H', ⟨hd, fun w hs => ⟨by
  subst he
  subst hcs
  subst hH
  refine ⟨w.setCell ⟨ent.g, off, none⟩ v, ?_, hs.set hi off v⟩
  simp only [execOp, ho, hf.eval hx, hf.eval hy]
  refine run_unit ?_
  have hl := hs.has ent (List.mem_of_getElem? hi)
  have hc := hl.cell (o := off) (List.getElem?_eq_getElem hoff)
  have hfz := hl.free off
  simp only [Instr.storeAt, Instr.sureAddr, storeVar, Sem.run_bind, Sem.run_pure, Result.andThen_ok, run_size hsz, oneCell_cells hv]
  simp only [List.size_toArray, List.length_cons, List.length_nil, Nat.zero_add, ne_eq, not_true_eq_false, if_false, storeCells, Sem.run_bind, Addr.add, if_true, store]
  cases v <;> first | (simp [Value.oneCell'] at hv; done) | simp [Sem.run, hc, hfz], hg a hf⟩⟩, fun hne => absurd rfl hne, fun w hs => hr a w hf hs⟩))
theorem TP.storeN {i g off s : Nat} {ent : Ent} {vs : List Value} (hg : Wants n ops L o) (hd : o.dst = none) (ho : o.op = .store t x y) (hsz : (P.info? t).map (·.size) = some s)
  (hx : ev L x = some (.pointer (some ⟨g, off, none⟩))) (hy : ev L y = some (.agg vs.toArray)) (hl : vs.length = s) (h1 : ∀ u ∈ vs, u.oneCell' = true) (hi : (HB ++ H)[i]? = some ent) (he : ent.g = g) (hoff : off + vs.length ≤ ent.cs.length)
  {cs' : List Value} (hcs : ent.cs.take off ++ vs ++ ent.cs.drop (off + vs.length) = cs') {H' : List Ent} (hH : (HB ++ H).set i ⟨ent.g, ent.t, cs', ent.tot⟩ = HB ++ H') (hr : TP P ops Q n w0 HB ks rest L H') : TP P ops Q n w0 HB (8 :: ks) (o :: rest) L H :=
 fun a hf => .inr (.inr (.inr ⟨rfl, St w0 (HB ++ H'), ⟨hd, fun w hs => ⟨by
  subst hcs
  rw [← hH]
  obtain ⟨w', hrun, hs'⟩ := run_storeCells (P := P) (i := i) (g := g) (ent := ent) (off := off) vs 0 (HB ++ H) ent w he hs hi h1 (by simpa using hoff)
  refine ⟨w', ?_, by simpa using hs'⟩
  simp only [execOp, ho, hf.eval hx, hf.eval hy]
  refine run_unit ?_
  simp only [Instr.storeAt, Instr.sureAddr, storeVar, Sem.run_bind, Sem.run_pure, Result.andThen_ok, run_size hsz]
  rw [if_neg (fun h => h (by simpa [Value.cells] using hl))]
  simpa [Value.cells] using hrun, hg a hf⟩⟩, fun w hs => ⟨H', hs⟩, hr a hf⟩))
theorem TP.storeW {i g s : Nat} {ent : Ent} {vs : List Value} (hg : Wants n ops L o) (hd : o.dst = none) (ho : o.op = .store t x y) (hsz : (P.info? t).map (·.size) = some s)
  (hx : ev L x = some (.pointer (some ⟨g, 0, none⟩))) (hy : ev L y = some (.agg vs.toArray)) (hl : vs.length = s) (h1 : ∀ u ∈ vs, u.oneCell' = true) (hi : (HB ++ H)[i]? = some ent) (he : ent.g = g) (hoff : ent.cs.length = s)
  {H' : List Ent} (hH : (HB ++ H).set i ⟨ent.g, ent.t, vs, ent.tot⟩ = HB ++ H') (hr : TP P ops Q n w0 HB ks rest L H') : TP P ops Q n w0 HB (8 :: ks) (o :: rest) L H :=
 TP.storeN hg hd ho hsz hx hy hl h1 hi he (by omega) (cs' := vs) (by
  have h2 : ent.cs.drop (0 + vs.length) = [] := List.drop_of_length_le (by omega)
  rw [h2]; simp) hH hr
theorem TC.seqJ {ι : Type} (Li : ι → List (Nat × Value)) (Hi : ι → List Ent) (C : ι → Prop) {x y : Code} (h1 : TC P (Exit.then (fun a w => ∃ i, C i ∧ Fr n (Li i) a ∧ St w0 (Hi i) w) Q) n w0 x L H) (h2 : ∀ i, C i → TC P Q n w0 y (Li i) (Hi i)) : TC P Q n w0 (.seq x y) L H := fun a w hf hs =>
 wpn_seq (wpn_mono (h1 a w hf hs) fun e a' w' hq => by
  cases e with
  | normal => obtain ⟨i, hC, hf', hs'⟩ := hq; exact h2 i hC a' w' hf' hs'
  | _ => exact hq)
theorem TE.join {ι : Type} {Li : ι → List (Nat × Value)} {Hi : ι → List Ent} {C : ι → Prop} (i : ι) (hC : C i) (hs : Sub (Li i) L) (hH : ∀ w, St w0 H w → St w0 (Hi i) w) : TE (Exit.then (fun a w => ∃ i, C i ∧ Fr n (Li i) a ∧ St w0 (Hi i) w) Q) .normal n w0 L H := fun a w hf hst => ⟨i, hC, hf.sub hs, hH w hst⟩
theorem TE.ret3C {fn : Func} {R : Ending → World → Prop} {i j q g off s : Nat} {u z : Value} {vs : List Value} (hres : fn.results = #[.cell i t, .tmp j, .tmp q]) (hag : (isAgg t).run P = fun w => .ok true w) (hsz : (P.info? t).map (·.size) = some s)
  (hx : look L i = some (.pointer (some ⟨g, off, none⟩))) (hy : look L j = some u) (hz : look L q = some z) (hl : vs.length = s) (hc : Row w0 H g off vs) (h : ∀ w, St w0 H w → R (.returned (.tuple #[.agg vs.toArray, u, z])) w) (hds : n.ds = [] := by rfl) : TE (bodyPost P fn R) .ret n w0 L H := fun a w hf hs => by
 refine ⟨hf.1.trans hds, .tuple #[.agg vs.toArray, u, z], ?_, h w hs⟩
 have h1 : (a.tmps.getD i undef) = .pointer (some ⟨g, off, none⟩) := by simp [Array.getD_eq_getD_getElem?, hf.2.2 i _ hx]
 have h3 : (a.tmps.getD j undef) = u := by simp [Array.getD_eq_getD_getElem?, hf.2.2 j _ hy]
 have h4 : (a.tmps.getD q undef) = z := by simp [Array.getD_eq_getD_getElem?, hf.2.2 q _ hz]
 have h2 := run_loadCells (P := P) (w := w) (b := g) (off := off) s 0 #[] vs hl (fun j u hu => by rw [Nat.zero_add]; exact hc w hs j u hu)
 simp only [results, hres]
 simp [Sem.run_bind, loadVar, hag, run_size hsz, loadCells]
 simp only [Array.getD_eq_getD_getElem?] at h1 h3 h4
 simp [h1, h3, h4, asAddr, h2]
theorem TL.rebase2 {w1 : World} {H0 H1 : List Ent} (hw : St w0 H0 w1) (hg : H1.map Ent.g = H0.map Ent.g) (h : TL P ops Q n w0 rest L H1) : TL P ops Q n w1 rest L H1 := fun a w' hf hs => h a w' hf (by
 have h1 : St w0 (H0 ++ []) w1 := by rw [List.append_nil]; exact hw
 have h2 : St w1 (H1 ++ []) w' := by rw [List.append_nil]; exact hs
 have := St.turns h1 h2 hg (by intro e he; cases he)
 simpa using this)
theorem st_dm {w : World} {A B C : List Ent} (h : St w0 (A ++ (B ++ C)) w) (hB : Fresh w0 B) : St w0 (A ++ C) w := by
 have hp : (A ++ (B ++ C)).Perm ((A ++ C) ++ B) := by
  rw [List.append_assoc]; exact List.Perm.append_left A List.perm_append_comm
 exact St.left (h.perm hp) hB
theorem src_seg {w : World} {g t tot a m : Nat} {X R : List Value} {W : List Int} {kd : IntKind} (h : Ent.lies ⟨g, t, X ++ (W.map (int kd) ++ R), tot⟩ w) (ha : X.length = a) (hm : W.length = m) : Src w (some ⟨g, a, none⟩) m kd W := by
 subst ha
 refine ⟨hm, .inr ⟨g, X.length, rfl, h.lt, fun j hj => h.cell ?_⟩⟩
 rw [List.getElem?_append_right (by omega), Nat.add_sub_cancel_left, List.getElem?_append_left (by rw [List.length_map]; omega)]
 exact qf (by omega)
theorem TL.mark2 {i g ln cp : Nat} {ent : Ent} {W : List Int} (hg : Wants n ops L o) (hi' : inside n o.dst = true) (ho : o.op = .convert t t x) (h1 : P.underlying t = some (.slice e)) (h2 : P.underlying e = some (.int .u8))
  (hx : ev L x = some (.slice (some ⟨g, 0, none⟩) ln cp)) (hi : H[i]? = some ent) (he : ent.g = g) (hcs : ent.cs = W.map (int .u8)) (hN : w0.heap.size ≤ g)
  (hr : ∀ w1, (∀ d ∈ H.eraseIdx i, d.g ≠ g) → St w0 (H.eraseIdx i) w1 → RowI w1 g 0 W.length .u8 W → g < w1.heap.size → TL P ops Q n w1 rest (put L o.dst (.slice (some ⟨g, 0, none⟩) ln cp)) []) : TL P ops Q n w0 (o :: rest) L H :=
 fun a w hf hs => wpL_wants hg.nd (hg a hf) fun K hK => by
  subst he
  obtain ⟨cur, hc1, hc2, hc3⟩ := hs.has ent (List.mem_of_getElem? hi)
  have hsh : w.shape? ent.g = some (ent.t, cur.size) := by simp [World.shape?, hc1]
  have hrun : (execOp a.eval o).run P w = .ok (.value (.slice (some ⟨ent.g, 0, none⟩) ln cp)) (w.freeze ⟨ent.g, cur.size, none⟩ 1) := by
   simp only [execOp, ho, hf.eval hx]
   refine run_value ?_
   simp [convert, Sem.run_bind, run_under h1, run_under h2, markStringish, shape, Sem.run, hsh, freeze]
  unfold Oper.wp; rw [hrun]
  have hother : ∀ b, b ≠ ent.g → (w.freeze ⟨ent.g, cur.size, none⟩ 1).heap[b]? = w.heap[b]? := by
   intro b hb
   unfold World.freeze
   rw [if_neg (by omega)]
   simp [Array.getElem?_modify, hb.symm]
  have hsize : (w.freeze ⟨ent.g, cur.size, none⟩ 1).heap.size = w.heap.size := by
   unfold World.freeze
   rw [if_neg (by omega)]
   simp
  have hmem : ∀ e ∈ H.eraseIdx i, e ∈ H ∧ e.g ≠ ent.g := by
   intro c hc
   rw [List.mem_eraseIdx_iff_getElem?] at hc
   obtain ⟨q, hq, hcq⟩ := hc
   exact ⟨List.mem_of_getElem? hcq, pairwise_ne hs.apart hcq hi hq⟩
  have hst := hs.erase hi hN
  have hst1 : St w0 (H.eraseIdx i) (w.freeze ⟨ent.g, cur.size, none⟩ 1) :=
   ⟨by unfold World.freeze; rw [if_neg (by omega)]; exact hst.os, by unfold World.freeze; rw [if_neg (by omega)]; exact hst.tape, by unfold World.freeze; rw [if_neg (by omega)]; exact hst.output, by rw [hsize]; exact hst.size,
    fun c hc => (hst.has c hc).of_block (hother _ (hmem c hc).2), fun b hb hne => (hother b (by omega)).trans (hst.old b hb hne), hst.apart⟩
  refine hK _ _ (hr _ (fun d hd => (hmem d hd).2) hst1 ?_ (by rw [hsize]; exact (hs.has ent (List.mem_of_getElem? hi)).lt) _ _ (hf.put o.dst _ hi') (St.refl _))
  intro j hj
  have h4 := hc3 j (.int .u8 (W.getD j 0)) (by rw [hcs]; exact qf hj)
  simp [World.cell?, frozen_mark hc1, h4]
end
end Go.Proofs.YtclmgfcdnokaiaaGreatDoor
