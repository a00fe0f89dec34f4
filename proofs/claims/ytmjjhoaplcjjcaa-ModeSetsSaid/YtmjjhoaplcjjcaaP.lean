/- Plain facts on the bits of modes: no program in sight. -/
import Derived.Laws.BitsLemmas
namespace Go.Proofs.Ytmjjhoaplcjjcaa
open Go

def wfI (m : Int) : Prop := -9223372036854775808 ≤ m ∧ m ≤ 9223372036854775807

theorem wrap_zero (n : Nat) (h : n < 18446744073709551616) : IntKind.i64.wrap (n : Int) = 0 ↔ n = 0 := by
  rw [IntKind.wrap_i64]; omega

theorem and_nat (a b : Nat) (ha : a < 9223372036854775808) (hb : b < 9223372036854775808) : bits .and .i64 (a : Int) (b : Int) = ((a &&& b : Nat) : Int) :=
  (bits_nat .i64 63 (by decide) (fun n h0 h1 => by rw [IntKind.wrap_i64]; omega) a b ha hb).1
theorem or_nat (a b : Nat) (ha : a < 9223372036854775808) (hb : b < 9223372036854775808) : bits .or .i64 (a : Int) (b : Int) = ((a ||| b : Nat) : Int) :=
  (bits_nat .i64 63 (by decide) (fun n h0 h1 => by rw [IntKind.wrap_i64]; omega) a b ha hb).2

theorem toNat_ofInt (m : Int) : (BitVec.ofInt 64 m).toNat = (m % 18446744073709551616).toNat := by
  rw [BitVec.toNat_ofInt]; rfl

/-- a mask with a number that fits: whatever the other is. -/
theorem and_mask (m : Int) (k : Nat) (hk : k < 9223372036854775808) : bits .and .i64 m (k : Int) = (((m % 18446744073709551616).toNat &&& k : Nat) : Int) := by
  show IntKind.i64.wrap ((BitVec.ofInt 64 m &&& BitVec.ofInt 64 (k : Int)).toNat : Int) = _
  rw [BitVec.toNat_and, toNat_ofInt, toNat_ofInt, show ((k : Int) % 18446744073709551616).toNat = k from by omega]
  have h : (m % 18446744073709551616).toNat &&& k ≤ k := Nat.and_le_right
  rw [IntKind.wrap_i64]; omega

theorem compl_and (u : Nat) (h : u < 18446744073709551616) (hz : u &&& 18446744073709548544 = 0) : u &&& 3071 = u := by
  have e : u &&& 18446744073709551615 = u := by
    have := Nat.and_two_pow_sub_one_eq_mod u 64
    rw [Nat.mod_eq_of_lt h] at this
    exact this
  have e2 : (18446744073709551615 : Nat) = 18446744073709548544 ||| 3071 := by decide
  rw [e2, Nat.and_or_distrib_left, hz, Nat.zero_or] at e
  exact e

theorem andNot_toNat (m : Int) : (BitVec.ofInt 64 m &&& ~~~ BitVec.ofInt 64 3071).toNat = (m % 18446744073709551616).toNat &&& 18446744073709548544 := by
  rw [BitVec.toNat_and, toNat_ofInt]; rfl

theorem andNot_zero (m : Int) (hm : wfI m) : (bits .andNot .i64 m 3071 == 0) = true ↔ ∃ n : Nat, n < 4096 ∧ m = n ∧ n &&& 3071 = n := by
  have hu : (m % 18446744073709551616).toNat < 18446744073709551616 := by omega
  have hle : (m % 18446744073709551616).toNat &&& 18446744073709548544 ≤ (m % 18446744073709551616).toNat := Nat.and_le_left
  have e : (bits .andNot .i64 m 3071 == 0) = true ↔ (m % 18446744073709551616).toNat &&& 18446744073709548544 = 0 := by
    rw [beq_iff_eq]
    show IntKind.i64.wrap ((BitVec.ofInt 64 m &&& ~~~ BitVec.ofInt 64 3071).toNat : Int) = 0 ↔ _
    rw [andNot_toNat, wrap_zero _ (by omega)]
  rw [e]
  unfold wfI at hm
  constructor
  · intro hz
    have h := compl_and _ hu hz
    have h3 : (m % 18446744073709551616).toNat &&& 3071 ≤ 3071 := Nat.and_le_right
    rw [h] at h3
    exact ⟨(m % 18446744073709551616).toNat, by omega, by omega, h⟩
  · rintro ⟨n, hn, rfl, h⟩
    have e : ((n : Int) % 18446744073709551616).toNat = n := by omega
    rw [e, ← h, Nat.and_assoc]
    have : 3071 &&& 18446744073709548544 = 0 := by decide
    rw [this, Nat.and_zero]

theorem andNot_nat (a b : Nat) (ha : a < 9223372036854775808) (hb : b < 9223372036854775808) : bits .andNot .i64 (a : Int) (b : Int) = ((a &&& (18446744073709551615 - b) : Nat) : Int) := by
  show IntKind.i64.wrap ((BitVec.ofInt 64 (a : Int) &&& ~~~ BitVec.ofInt 64 (b : Int)).toNat : Int) = _
  have h : (~~~ BitVec.ofInt 64 (b : Int)).toNat = 18446744073709551615 - b := by
    rw [BitVec.toNat_not, toNat_ofInt, show ((b : Int) % 18446744073709551616).toNat = b from by omega]
  rw [BitVec.toNat_and, toNat_ofInt, h, show ((a : Int) % 18446744073709551616).toNat = a from by omega]
  have h : a &&& (18446744073709551615 - b) ≤ a := Nat.and_le_left
  rw [IntKind.wrap_i64]; omega

theorem grant_nat : ∀ a : Fin 64, ∀ b : Fin 64, ∀ v : Fin 8, ((v.val &&& (18446744073709551615 - (a.val * 64 + b.val))) == 0) = (((a.val * 64 + b.val) &&& 7) &&& v.val == v.val) := by
  decide +kernel
theorem cast_beq (a b : Nat) : (((a : Int) == (b : Int)) : Bool) = (a == b) := by
  rw [Bool.eq_iff_iff, beq_iff_eq, beq_iff_eq]; omega
theorem grant_eq (g v : Nat) (hg : g < 4096) (hv : v < 8) : (bits .andNot .i64 (v : Int) (g : Int) == 0) = (bits .and .i64 (bits .and .i64 (g : Int) 7) v == v) := by
  have h := grant_nat ⟨g / 64, by omega⟩ ⟨g % 64, by omega⟩ ⟨v, hv⟩
  have e : g / 64 * 64 + g % 64 = g := by omega
  simp only [e] at h
  have h7 : bits .and .i64 (g : Int) 7 = ((g &&& 7 : Nat) : Int) := and_nat g 7 (by omega) (by omega)
  have : g &&& 7 ≤ 7 := Nat.and_le_right
  rw [andNot_nat _ _ (by omega) (by omega), h7, and_nat _ _ (by omega) (by omega), cast_beq, ← h]
  exact cast_beq _ 0
end Go.Proofs.Ytmjjhoaplcjjcaa
