/- Contracts of Mix, the program's and the document's answer. -/
import Derived.Test.YtikmdjepohmonaaDoorRows
import Derived.Test.YtikmdjepohmonaaDoorS
import Derived.WalkKit
import Derived.WalkSpells
import Derived.WalkLawsBesides
import Derived.Deep.QuietTactic
import Derived.BigQuiet
import Derived.Lib.Hide
import Derived.Below
namespace Go.Proofs.YtikmdjepohmonaaDoor
open Go.RowKit

theorem ret_val {a b : Value} (h : a = b) : Ending.returned a = .returned b := by rw [h]
theorem ret_bool {a b : Bool} (h : a = b) : Ending.returned (.bool a) = .returned (.bool b) := by rw [h]
theorem drop_eq (s : ByteArray) (k : Nat) (h : k < s.size) : s.data.toList.drop k = s[k] :: s.data.toList.drop (k + 1) := by
  rw [List.drop_eq_getElem_cons (by simpa using h)]; rfl
theorem pass_step (s : ByteArray) (k : Nat) (h : k < s.size) (y : Int) : passS (s.data.toList.drop k) y = passS (s.data.toList.drop (k + 1)) (bstep y s[k]) := by
  unfold passS; rw [drop_eq s k h]; rfl
theorem pass_end (s : ByteArray) (y : Int) : passS (s.data.toList.drop s.size) y = y := by
  rw [List.drop_of_length_le (by simp)]; rfl

def mixRel (s : ByteArray) (res : Int) (h i : Value) : Prop := ∃ (k : Nat) (x : Int), k ≤ 64 ∧ i = .int .i64 k ∧ h = .int .u64 x ∧ turnsS s.data.toList (64 - k) x = res
def passRel (s : ByteArray) (res : Int) (h i : Value) : Prop := ∃ (k : Nat) (x : Int), k ≤ s.size ∧ i = .int .i64 k ∧ h = .int .u64 x ∧ passS (s.data.toList.drop k) x = res
theorem turns_step (l : List UInt8) (k : Nat) (x res p : Int) (h : k < 64) (hr : turnsS l (64 - k) x = res) (hp : passS l x = p) : turnsS l (64 - (k + 1)) (endS p) = res := by
  rw [← hp, ← hr]
  obtain ⟨m, hm⟩ : ∃ m, 64 - k = m + 1 := ⟨63 - k, by omega⟩
  rw [hm, show 64 - (k + 1) = m from by omega]
  rfl
set_option maxHeartbeats 800000 in
theorem mix_any (salt : Int) (s : ByteArray) (hs : s.size ≤ maxLen) (w : World) :
    Calls Tryd.prog 10 #[.int .i64 salt, .string s] w fun e w' => e = .returned (.int .u64 (mixS salt s.data.toList)) ∧ w = w' := by
  unfold maxLen at hs
  go_enter Tryd.func10, Tryd.ntmps10
  go_wp2
  go_loop [5, 11] (fun h i => mixRel s (mixS salt s.data.toList) h i) (fun _ i => 64 - (intOf i).toNat)
  case atStart => exact ⟨0, _, by decide, rfl, rfl, rfl⟩
  case round =>
    obtain ⟨k, x, hk, rfl, rfl, hr⟩ := hrel
    have Hr := Lib.hid hr
    clear hr
    by_cases h64 : k < 64
    · go_wp2
      go_loop [5, 15] (fun h i => passRel s (passS s.data.toList x) h i) (fun _ i => s.size - (intOf i).toNat)
      case atStart => exact ⟨0, _, Nat.zero_le _, rfl, rfl, rfl⟩
      case round =>
        obtain ⟨j, y, hj, rfl, rfl, hp⟩ := hrel
        have Hp := Lib.hid hp
        clear hp
        by_cases hlt : j < s.size
        · have Hs := Lib.hid ((pass_step s j hlt y).symm.trans Hp.out)
          go_wp2
          go_round
          case rel => exact ⟨j + 1, _, hlt, by go_num, rfl, Hs.out⟩
          case measure => simp [intOf]; omega
        · obtain rfl : j = s.size := by omega
          have Hs := Lib.hid ((pass_end s y).symm.trans Hp.out)
          go_wp2
          go_round
          case rel => exact ⟨k + 1, _, h64, by go_num, rfl, turns_step _ k x _ y h64 Hr.out Hs.out.symm⟩
          case measure => simp [intOf]; omega
    · obtain rfl : k = 64 := by omega
      have Hs := Lib.hid (show x = mixS salt s.data.toList from Hr.out)
      go_wp2
      go_ret
      exact ⟨ret_val (congrArg (Value.int .u64) Hs.out), rfl⟩
set_option maxHeartbeats 800000 in
theorem refMix_any (salt : Int) (s : ByteArray) (hs : s.size ≤ maxLen) (w : World) :
    Calls Tryd.prog 11 #[.int .i64 salt, .string s] w fun e w' => e = .returned (.int .u64 (mixS salt s.data.toList)) ∧ w = w' := by
  unfold maxLen at hs
  go_enter Tryd.func11, Tryd.ntmps11
  go_wp2
  go_loop [5, 6] (fun h i => mixRel s (mixS salt s.data.toList) h i) (fun _ i => 64 - (intOf i).toNat)
  case atStart => exact ⟨0, _, by decide, rfl, rfl, rfl⟩
  case round =>
    obtain ⟨k, x, hk, rfl, rfl, hr⟩ := hrel
    have Hr := Lib.hid hr
    clear hr
    by_cases h64 : k < 64
    · go_wp2
      go_loop [5, 7] (fun h i => passRel s (passS s.data.toList x) h i) (fun _ i => s.size - (intOf i).toNat)
      case atStart => exact ⟨0, _, Nat.zero_le _, rfl, rfl, rfl⟩
      case round =>
        obtain ⟨j, y, hj, rfl, rfl, hp⟩ := hrel
        have Hp := Lib.hid hp
        clear hp
        by_cases hlt : j < s.size
        · have Hs := Lib.hid ((pass_step s j hlt y).symm.trans Hp.out)
          go_wp2
          go_round
          case rel => exact ⟨j + 1, _, hlt, by go_num, rfl, Hs.out⟩
          case measure => simp [intOf]; omega
        · obtain rfl : j = s.size := by omega
          have Hs := Lib.hid ((pass_end s y).symm.trans Hp.out)
          go_wp2
          go_round
          case rel => exact ⟨k + 1, _, h64, by go_num, rfl, turns_step _ k x _ y h64 Hr.out Hs.out.symm⟩
          case measure => simp [intOf]; omega
    · obtain rfl : k = 64 := by omega
      have Hs := Lib.hid (show x = mixS salt s.data.toList from Hr.out)
      go_wp2
      go_ret
      exact ⟨ret_val (congrArg (Value.int .u64) Hs.out), rfl⟩
end Go.Proofs.YtikmdjepohmonaaDoor
