/- Plain facts: a text tells its mode and kind. -/
import Derived.Test.YtmjjhoaplcjjcaaM2
namespace Go.Proofs.Ytmjjhoaplcjjcaa
open Go.RowKit
def tailS (m : Int) : List UInt8 := (textS 0 m).tail
theorem textS_tail (f : UInt8) (m : Int) : textS f m = f :: tailS m := by
  unfold tailS textS textB
  cases (bits .and .i64 m 512 != 0) <;> cases (bits .and .i64 m 2048 != 0) <;> rfl
theorem tailS_len (m : Int) : (tailS m).length = 9 := by
  have e : (textS 0 m).length = 10 := by
    unfold textS
    split <;> split <;> simp [textB_len]
  rw [textS_tail] at e
  simpa using e
def bitOf (c : UInt8) (b : Nat) : Nat := if c = 45 then 0 else b
def decT (l : List UInt8) : Nat :=
  bitOf (l.getD 0 45) 256 + bitOf (l.getD 1 45) 128 + bitOf (l.getD 3 45) 32 + bitOf (l.getD 4 45) 16 + bitOf (l.getD 5 45) 8 + bitOf (l.getD 6 45) 4 + bitOf (l.getD 7 45) 2 +
  (if l.getD 2 45 = 120 then 64 else if l.getD 2 45 = 115 then 2112 else if l.getD 2 45 = 83 then 2048 else 0) +
  (if l.getD 8 45 = 120 then 1 else if l.getD 8 45 = 116 then 513 else if l.getD 8 45 = 84 then 512 else 0)
theorem dec_nat : ∀ a : Fin 64, ∀ b : Fin 64, (a.val * 64 + b.val) &&& 3071 = a.val * 64 + b.val → decT (tailS ((a.val * 64 + b.val : Nat) : Int)) = a.val * 64 + b.val := by decide +kernel
theorem dec_of (n : Nat) (hn : n < 4096) (h : n &&& 3071 = n) : decT (tailS (n : Int)) = n := by
  have := dec_nat ⟨n / 64, by omega⟩ ⟨n % 64, by omega⟩
  have e : n / 64 * 64 + n % 64 = n := by omega
  simp only [e] at this
  exact this h
theorem kind_inj : ∀ k o : Fin 3, kindB (k.val : Int) = kindB (o.val : Int) → k = o := by decide
theorem tells (k o : Int) (n p : Nat) (hk : 0 ≤ k ∧ k ≤ 2) (ho : 0 ≤ o ∧ o ≤ 2) (hn : n < 4096) (hp : p < 4096) (hn2 : n &&& 3071 = n) (hp2 : p &&& 3071 = p) :
    textA k (n : Int) = textA o (p : Int) ↔ (n = p ∧ k = o) := by
  have e1 : textA k (n : Int) = kindB k :: tailS (n : Int) := by unfold textA; rw [if_pos ⟨right_of n hn hn2, hk⟩, textS_tail]
  have e2 : textA o (p : Int) = kindB o :: tailS (p : Int) := by unfold textA; rw [if_pos ⟨right_of p hp hp2, ho⟩, textS_tail]
  rw [e1, e2]
  constructor
  · intro h
    obtain ⟨h1, h2⟩ := List.cons.inj h
    constructor
    · rw [← dec_of n hn hn2, h2, dec_of p hp hp2]
    · obtain ⟨kn, rfl⟩ := Int.eq_ofNat_of_zero_le hk.1
      obtain ⟨on, rfl⟩ := Int.eq_ofNat_of_zero_le ho.1
      have := kind_inj ⟨kn, by omega⟩ ⟨on, by omega⟩ h1
      have := congrArg Fin.val this
      simp at this
      omega
  · rintro ⟨rfl, rfl⟩; rfl
theorem text_size (k : Int) (n : Nat) (hk : 0 ≤ k ∧ k ≤ 2) (hn : n < 4096) (hn2 : n &&& 3071 = n) : (⟨(textA k (n : Int)).toArray⟩ : ByteArray).size = 10 := by
  have e1 : textA k (n : Int) = kindB k :: tailS (n : Int) := by unfold textA; rw [if_pos ⟨right_of n hn hn2, hk⟩, textS_tail]
  rw [e1]
  show (kindB k :: tailS (n : Int)).toArray.size = 10
  simp [tailS_len]

theorem neg_mod (a : Int) (h : a < 0) : 0 ≤ -((a + 1).tmod 3) ∧ -((a + 1).tmod 3) ≤ 2 := by
  rw [← Int.neg_tmod, Int.tmod_eq_emod_of_nonneg (by omega)]
  omega
theorem tells_facts (k o : Int) (n p : Nat) (hk : 0 ≤ k ∧ k ≤ 2) (ho : 0 ≤ o ∧ o ≤ 2) (hn : n < 4096) (hp : p < 4096) (hn2 : n &&& 3071 = n) (hp2 : p &&& 3071 = p) :
    ∃ t1 t2 : ByteArray, (⟨(textA k (n : Int)).toArray⟩ : ByteArray) = t1 ∧ (⟨(textA o (p : Int)).toArray⟩ : ByteArray) = t2 ∧ t1.size = 10 ∧ (t1.toList == t2.toList) = (((n : Int) == (p : Int)) && (k == o)) := by
  refine ⟨_, _, rfl, rfl, text_size _ n hk hn hn2, ?_⟩
  have ht := tells k o n p hk ho hn hp hn2 hp2
  rw [Bool.eq_iff_iff, beq_iff_eq, Bool.and_eq_true, beq_iff_eq, beq_iff_eq, ByteArray.toList_eq, ByteArray.toList_eq]
  show (textA k (n : Int)) = (textA o (p : Int)) ↔ _
  rw [ht]
  omega
end Go.Proofs.Ytmjjhoaplcjjcaa
