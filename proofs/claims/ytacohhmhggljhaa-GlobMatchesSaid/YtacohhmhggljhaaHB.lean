/- Sets of bytes as four numbers: what they hold, as plain facts. No program in sight. -/
import Derived.Test.YtacohhmhggljhaaHA
import Derived.WalkKit
namespace Go.Proofs.Ytacohhmhggljhaa
open Go.RowKit
/-- the number whose bits below n are g. -/
def wordN (g : Nat → Bool) : Nat → Nat
  | 0 => 0
  | n + 1 => 2 ^ n * (g n).toNat + wordN g n
theorem wordN_lt (g : Nat → Bool) : ∀ n, wordN g n < 2 ^ n
  | 0 => by simp [wordN]
  | n + 1 => by
    have := wordN_lt g n
    rw [wordN, Nat.pow_succ]
    cases g n <;> simp <;> omega
theorem wordN_bit (g : Nat → Bool) : ∀ n i, (wordN g n).testBit i = (decide (i < n) && g i)
  | 0, i => by simp [wordN]
  | n + 1, i => by
    have hl := wordN_lt g n
    rw [wordN]
    rcases Nat.lt_trichotomy i n with h | h | h
    · cases hg : g n
      · simp [wordN_bit g n i, h, show i < n + 1 by omega]
      · rw [Bool.toNat_true, Nat.mul_one, Nat.testBit_two_pow_add_gt h, wordN_bit g n i]; simp [h, show i < n + 1 by omega]
    · subst h
      cases hg : g i
      · simp [Nat.testBit_lt_two_pow hl]
      · rw [Bool.toNat_true, Nat.mul_one, Nat.testBit_two_pow_add_eq, Nat.testBit_lt_two_pow hl]; simp
    · have h2 : 2 ^ n * (g n).toNat + wordN g n < 2 ^ i := Nat.lt_of_lt_of_le (show _ < 2 ^ (n + 1) by rw [Nat.pow_succ]; cases g n <;> simp <;> omega) (Nat.pow_le_pow_right (by omega) (by omega))
      rw [Nat.testBit_lt_two_pow h2]; simp [show ¬ i < n + 1 by omega]
def word (f : UInt8 → Bool) (q : Nat) : Nat := wordN (fun i => f (UInt8.ofNat (64 * q + i))) 64
theorem word_lt (f : UInt8 → Bool) (q : Nat) : word f q < 18446744073709551616 := wordN_lt _ 64
theorem word_bit (f : UInt8 → Bool) (q i : Nat) (hi : i < 64) : (word f q).testBit i = f (UInt8.ofNat (64 * q + i)) := by
  unfold word; rw [wordN_bit]; simp [hi]
theorem word_high (f : UInt8 → Bool) (q i : Nat) (hi : ¬ i < 64) : (word f q).testBit i = false := by
  unfold word; rw [wordN_bit]; simp [hi]
theorem word_byte (f : UInt8 → Bool) (c : UInt8) : (word f (c.toNat / 64)).testBit (c.toNat % 64) = f c := by
  rw [word_bit _ _ _ (Nat.mod_lt _ (by decide)), Nat.div_add_mod, UInt8.ofNat_toNat]
def wd (f : UInt8 → Bool) (q : Nat) : Value := .int .u64 (word f q : Nat)
def setV (f : UInt8 → Bool) : Value := .agg #[wd f 0, wd f 1, wd f 2, wd f 3]
def setC (f : UInt8 → Bool) : List Value := [wd f 0, wd f 1, wd f 2, wd f 3]
def noneF : UInt8 → Bool := fun _ => false
theorem word_none (q : Nat) : word noneF q = 0 := by
  apply Nat.eq_of_testBit_eq
  intro i
  by_cases hi : i < 64
  · rw [word_bit _ _ _ hi]; simp [noneF]
  · rw [word_high _ _ _ hi]; simp
/-- a byte is put into its word. -/
theorem word_add (f : UInt8 → Bool) (c : UInt8) : word f (c.toNat / 64) ||| 2 ^ (c.toNat % 64) = word (fun x => f x || x == c) (c.toNat / 64) := by
  apply Nat.eq_of_testBit_eq
  intro i
  rw [Nat.testBit_or, Nat.testBit_two_pow]
  have hc := c.toNat_lt
  by_cases hi : i < 64
  · rw [word_bit _ _ _ hi, word_bit _ _ _ hi]
    congr 1
    rw [Bool.eq_iff_iff, decide_eq_true_eq, beq_iff_eq]
    constructor
    · intro h; rw [← h, Nat.div_add_mod, UInt8.ofNat_toNat]
    · intro h
      have := congrArg UInt8.toNat h
      rw [UInt8.toNat_ofNat'] at this
      omega
  · rw [word_high _ _ _ hi, word_high _ _ _ hi, decide_eq_false (by omega)]; rfl
theorem word_other (f : UInt8 → Bool) (c : UInt8) (q : Nat) (hq : q < 4) (h : q ≠ c.toNat / 64) : word (fun x => f x || x == c) q = word f q := by
  apply Nat.eq_of_testBit_eq
  intro i
  by_cases hi : i < 64
  · rw [word_bit _ _ _ hi, word_bit _ _ _ hi]
    have : (UInt8.ofNat (64 * q + i) == c) = false := by
      rw [beq_eq_false_iff_ne]
      intro e
      have := congrArg UInt8.toNat e
      rw [UInt8.toNat_ofNat'] at this
      omega
    rw [this, Bool.or_false]
  · rw [word_high _ _ _ hi, word_high _ _ _ hi]
theorem word_not (f : UInt8 → Bool) (q : Nat) : word (fun x => !f x) q = 18446744073709551615 - word f q := by
  have h := word_lt f q
  have e : 18446744073709551615 - word f q = 2 ^ 64 - (word f q + 1) := by omega
  rw [e]
  apply Nat.eq_of_testBit_eq
  intro i
  rw [Nat.testBit_two_pow_sub_succ h]
  by_cases hi : i < 64
  · rw [word_bit _ _ _ hi, word_bit _ _ _ hi]; simp [hi]
  · rw [word_high _ _ _ hi]; simp [hi]
end Go.Proofs.Ytacohhmhggljhaa
