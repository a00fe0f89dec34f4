/- WalkMakes: which modes and rights. Plain mathematics. -/
import Derived.Test.YtflncolmehmaaaaYP
namespace Go.Proofs.Ytflncolmehmaaaa
open Ino Pa Mo

theorem and_le7 (n : Int) (k : Nat) (hk : k < 9223372036854775808) : ∃ m : Nat, bits .and .i64 n (k : Int) = (m : Int) ∧ m ≤ k := ⟨_, Mo.and_mask n k hk, Nat.and_le_right⟩
theorem fin64 {P : Nat → Prop} (h : ∀ q : Fin 64, P q.1) {q : Nat} (hq : q ≤ 63) : P q := h ⟨q, by omega⟩
theorem or_q {q : Nat} (hq : q ≤ 63) : bits .or .i64 448 (q : Int) = ((448 + q : Nat) : Int) :=
  fin64 (P := fun q => bits .or .i64 448 (q : Int) = ((448 + q : Nat) : Int)) (by decide +kernel) hq
theorem right_q {q : Nat} (hq : q ≤ 63) : rightB ((448 + q : Nat) : Int) = true :=
  fin64 (P := fun q => rightB ((448 + q : Nat) : Int) = true) (by decide +kernel) hq
theorem rMode_q {q : Nat} (hq : q ≤ 63) : rMode ((448 + q : Nat) : Int) = true :=
  fin64 (P := fun q => rMode ((448 + q : Nat) : Int) = true) (by decide +kernel) hq
theorem one_q {q : Nat} (hq : q ≤ 63) : (bits .andNot .i64 1 ((448 + q : Nat) : Int) == 0) = (bits .and .i64 ((448 + q : Nat) : Int) 1 == 1) :=
  fin64 (P := fun q => (bits .andNot .i64 1 ((448 + q : Nat) : Int) == 0) = (bits .and .i64 ((448 + q : Nat) : Int) 1 == 1)) (by decide +kernel) hq
theorem may_root (u g want : Int) (hu : u ≠ 0) (hw : want = 1 ∨ want = 2) : mayB 511 0 0 true u g want = true := by
  have hr : rightB 511 = true := by decide +kernel
  unfold mayB
  rcases hw with rfl | rfl
  · rw [if_pos ⟨hr, by decide, by decide⟩, if_neg hu, if_neg hu]
    by_cases e : g = 0
    · rw [if_pos e]; decide +kernel
    · rw [if_neg e]; decide +kernel
  · rw [if_pos ⟨hr, by decide, by decide⟩, if_neg hu, if_neg hu]
    by_cases e : g = 0
    · rw [if_pos e]; decide +kernel
    · rw [if_neg e]; decide +kernel
theorem may_own {q : Nat} (hq : q ≤ 63) (u : Int) (hu : u ≠ 0) (want : Int) (hw : want = 1 ∨ want = 2) : mayB ((448 + q : Nat) : Int) u 9 true u 9 want = true := by
  have h7 : ((448 + q : Nat) : Int) / 64 = 7 := by omega
  unfold mayB
  rcases hw with rfl | rfl
  · rw [if_pos ⟨right_q hq, by decide, by decide⟩, if_neg hu, if_pos rfl, h7]; decide +kernel
  · rw [if_pos ⟨right_q hq, by decide, by decide⟩, if_neg hu, if_pos rfl, h7]; decide +kernel
theorem may_else {q : Nat} (hq : q ≤ 63) (u v : Int) (hv : v ≠ 0) (hne : v ≠ u) : mayB ((448 + q : Nat) : Int) u 9 true v 8 1 = (bits .and .i64 ((448 + q : Nat) : Int) 1 == 1) := by
  unfold mayB
  rw [if_pos ⟨right_q hq, by decide, by decide⟩, if_neg hv, if_neg hne, if_neg (by decide)]
  exact one_q hq
theorem rts_q {q r : Nat} (hq : q ≤ 63) (hr : r ≤ 255) : Rts ((1 + r : Nat) : Int) ((448 + q : Nat) : Int) := by
  have hu : ((1 + r : Nat) : Int) ≠ 0 := by omega
  refine ⟨may_root _ _ _ hu (.inl rfl), may_root _ _ _ hu (.inr rfl), may_own hq _ hu _ (.inl rfl), may_own hq _ hu _ (.inr rfl), rMode_q hq, ?_⟩
  have h1 : rId ((1 + r : Nat) : Int) = true := by unfold rId; exact decide_eq_true (by omega)
  unfold rMake
  rw [rMode_q hq, h1]
  decide
end Go.Proofs.Ytflncolmehmaaaa
