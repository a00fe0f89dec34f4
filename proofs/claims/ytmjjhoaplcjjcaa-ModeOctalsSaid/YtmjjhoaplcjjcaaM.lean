/- Plain facts: a masked number is a mode; both answers on May are one. -/
import Derived.Test.YtmjjhoaplcjjcaaW1
namespace Go.Proofs.Ytmjjhoaplcjjcaa
open Go

theorem mask_right (m : Int) : ∃ n : Nat, n < 4096 ∧ n &&& 3071 = n ∧ bits .and .i64 m 3071 = (n : Int) := by
  refine ⟨(m % 18446744073709551616).toNat &&& 3071, ?_, ?_, and_mask m 3071 (by decide)⟩
  · have : (m % 18446744073709551616).toNat &&& 3071 ≤ 3071 := Nat.and_le_right
    omega
  · rw [Nat.and_assoc, Nat.and_self]
theorem right_of (n : Nat) (hn : n < 4096) (h : n &&& 3071 = n) : rightB (n : Int) = true := by
  unfold rightB
  exact (andNot_zero (n : Int) (by unfold wfI; omega)).2 ⟨n, hn, rfl, h⟩
theorem wf_range {m : Int} (h : (Lit.int .i64 m).wf = true) : wfI m := by
  simpa [Lit.wf, IntKind.min, IntKind.max, IntKind.bits, IntKind.signed, wfI] using h
theorem refRight_eq (m : Int) (h : wfI m) : refRightB m = rightB m := by
  unfold refRightB
  cases hr : rightB m
  · rw [Bool.and_false]
  · obtain ⟨n, hn, rfl, _⟩ := (andNot_zero m h).1 hr
    rw [decide_eq_true (by omega)]; rfl
theorem refMay_eq (m owner group : Int) (dir : Bool) (uid gid want : Int) (h : wfI m) : refMayB m owner group dir uid gid want = mayB m owner group dir uid gid want := by
  unfold refMayB mayB
  rw [refRight_eq m h]
  by_cases hc : rightB m = true ∧ 1 ≤ want ∧ want ≤ 7
  · rw [if_pos hc, if_pos hc]
    by_cases h0 : uid = 0
    · rw [if_pos h0, if_pos h0]
      cases dir
      · rfl
      · simp
    · rw [if_neg h0, if_neg h0]
      obtain ⟨n, hn, rfl, _⟩ := (andNot_zero m h).1 hc.1
      obtain ⟨v, rfl⟩ := Int.eq_ofNat_of_zero_le (show 0 ≤ want by omega)
      have e64 : (n : Int) / 64 = ((n / 64 : Nat) : Int) := by omega
      have e8 : (n : Int) / 8 = ((n / 8 : Nat) : Int) := by omega
      by_cases ho : uid = owner
      · rw [if_pos ho, if_pos ho, e64, grant_eq _ _ (by omega) (by omega)]
      · rw [if_neg ho, if_neg ho]
        by_cases hg : gid = group
        · rw [if_pos hg, if_pos hg, e8, grant_eq _ _ (by omega) (by omega)]
        · rw [if_neg hg, if_neg hg, grant_eq _ _ (by omega) (by omega)]
  · rw [if_neg hc, if_neg hc]
theorem may_root (n : Nat) (hn : n < 4096) (h : n &&& 3071 = n) (owner group gid : Int) :
    mayB (n : Int) owner group true 0 gid 7 = true ∧ mayB (n : Int) owner group false 0 gid 6 = true ∧ mayB (n : Int) owner group false 0 gid 1 = (bits .and .i64 (n : Int) 73 != 0) ∧ mayB (n : Int) owner group false 0 gid 7 = (bits .and .i64 (n : Int) 73 != 0) := by
  have hr := right_of n hn h
  unfold mayB
  refine ⟨?_, ?_, ?_, ?_⟩
  · rw [if_pos ⟨hr, by decide, by decide⟩, if_pos rfl]; simp
  · rw [if_pos ⟨hr, by decide, by decide⟩, if_pos rfl]
    have : (bits .and .i64 6 1 == 0) = true := by decide +kernel
    rw [this]; rfl
  · rw [if_pos ⟨hr, by decide, by decide⟩, if_pos rfl]
    have : (bits .and .i64 1 1 == 0) = false := by decide +kernel
    rw [this]; rfl
  · rw [if_pos ⟨hr, by decide, by decide⟩, if_pos rfl]
    have : (bits .and .i64 7 1 == 0) = false := by decide +kernel
    rw [this]; rfl
end Go.Proofs.Ytmjjhoaplcjjcaa
