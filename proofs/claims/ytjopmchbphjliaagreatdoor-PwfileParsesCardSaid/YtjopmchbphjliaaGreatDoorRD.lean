/- Contracts of the document's Name and place. -/
import Derived.Test.YtjopmchbphjliaaGreatDoorRC
import Derived.Test.YtjopmchbphjliaaGreatDoorRM
import Derived.Test.YtjopmchbphjliaaGreatDoorR2
namespace Go.Proofs.YtjopmchbphjliaaGreatDoor
open Go.RowKit Go.Shelf

def ne58 (c : UInt8) : Bool := c != 58
theorem ne58_all (l : List UInt8) : l.all ne58 = !l.contains 58 := by
  induction l with
  | nil => rfl
  | cons c r ih =>
    rw [List.all_cons, List.contains_cons, ih]
    unfold ne58
    rw [bne, Bool.not_or, Bool.beq_comm]
theorem rsplit_place (s : ByteArray) (hs : s.size ≤ 1048576) (a d : Bool) (k : Nat) (ha : splAbs s.data.toList = a) (hd : splDir s.data.toList = d) (hk : splE s.data.toList = k) (w : World) :
    Calls Tryz.prog 62 #[.string s] w fun e w' => ∃ p n cap, e = .returned (.tuple #[.agg #[.bool a, .slice p n cap, .bool d], .int .i64 k]) ∧ Below w.heap.size w w' := by
  subst ha hd hk
  refine (refSplit_any s hs w).mono ?_
  rintro e w' ⟨v, rfl, hrow, hb⟩
  obtain ⟨p, cap, rfl⟩ := row_slice hrow
  exact ⟨p, _, cap, rfl, hb⟩
theorem place_two {l : List UInt8} {k : Nat} {a : Bool} (hk : splE l = k) (ha : splAbs l = a) : placeB l = (l.all ne58 && (decide (k = 0) && a)) := by
  unfold placeB
  rw [ne58_all]
  subst hk
  by_cases h0 : splE l = 0
  · have : a = absP l := by rw [← ha]; unfold splAbs; rw [if_pos h0]
    rw [this, decide_eq_true h0]
    cases absP l <;> cases l.contains 58 <;> rfl
  · rw [decide_eq_false h0]
    cases l.contains 58 <;> rfl
def rnRel (s : ByteArray) (i : Value) : Prop := ∃ k : Nat, k ≤ s.size ∧ i = .int .i64 k ∧ (s.data.toList.drop k).all wordB = s.data.toList.all wordB ∧ (0 < k → ∃ h : 0 < s.size, letB s[0] = true)
theorem rn_first (s : ByteArray) (k : Nat) (hk : k < s.size) (hL : letB s[k] = true) (h0 : 0 < k → ∃ h : 0 < s.size, letB s[0] = true) : ∃ h : 0 < s.size, letB s[0] = true := by
  by_cases e : k = 0
  · subst e; exact ⟨hk, hL⟩
  · exact h0 (by omega)
end Go.Proofs.YtjopmchbphjliaaGreatDoor
