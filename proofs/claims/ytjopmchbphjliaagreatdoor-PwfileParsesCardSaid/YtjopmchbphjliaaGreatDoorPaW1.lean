/- Contracts of hasWrongByte, strings.Cut at a stroke, Name. -/
import Derived.Test.YtjopmchbphjliaaGreatDoorRows
import Derived.Test.YtjopmchbphjliaaGreatDoorB0
import Derived.Test.YtjopmchbphjliaaGreatDoorShelf
import Derived.Test.YtjopmchbphjliaaGreatDoorPaS
import Derived.WalkKit
import Derived.WalkSpells
import Derived.WalkLawsBesides
import Derived.Deep.QuietTactic
import Derived.BigQuiet
import Derived.Lib.Hide
import Derived.Lib.IndexLaws
import Derived.Below
namespace Go.Proofs.YtjopmchbphjliaaGreatDoor
open Go.RowKit

theorem bad_step (s : ByteArray) (k : Nat) (h : k < s.size) (hb : badC s[k] = false) : anyBad (s.data.toList.drop k) = anyBad (s.data.toList.drop (k + 1)) := by
  unfold anyBad; rw [drop_eq s k h, List.any_cons, hb, Bool.false_or]
theorem bad_stop (s : ByteArray) (k : Nat) (h : k < s.size) (hb : badC s[k] = true) : anyBad (s.data.toList.drop k) = true := by
  unfold anyBad; rw [drop_eq s k h, List.any_cons, hb, Bool.true_or]
theorem bad_end (s : ByteArray) (k : Nat) (h : s.size ≤ k) : anyBad (s.data.toList.drop k) = false := by
  rw [List.drop_of_length_le (by simpa using h)]; rfl
def badRel (s : ByteArray) (i : Value) : Prop := ∃ k : Nat, k ≤ s.size ∧ i = .int .i64 k ∧ anyBad (s.data.toList.drop k) = anyBad s.data.toList
set_option maxHeartbeats 800000 in
theorem bad_any (s : ByteArray) (hs : s.size ≤ maxLen) (w : World) :
    Calls Tryz.prog 73 #[.string s] w fun e w' => e = .returned (.bool (anyBad s.data.toList)) ∧ w = w' := by
  unfold maxLen at hs
  go_enter Tryz.func73, Tryz.ntmps73
  go_wp2
  go_loop [6] (fun i => badRel s i) (fun i => s.size - (intOf i).toNat)
  case atStart => exact ⟨0, Nat.zero_le _, rfl, rfl⟩
  case round =>
    obtain ⟨k, hk, rfl, hn⟩ := hrel
    have Hn := Lib.hid hn; clear hn
    by_cases hlt : k < s.size
    · cases hb : badC s[k]
      · have Hs := Lib.hid ((bad_step s k hlt hb).symm.trans Hn.out)
        have h32 : ¬ (s[k].toNat : Int) < 32 := by unfold badC at hb; simp at hb; omega
        have h127 : (((s[k].toNat : Int) == 127) : Bool) = false := by
          unfold badC at hb; simp at hb
          rw [beq_eq_false_iff_ne]; omega
        clear hb
        go_wp2
        go_round
        case rel => exact ⟨k + 1, by omega, by go_num, Hs.out⟩
        case measure => simp [intOf]; omega
      · have Hr := Lib.hid ((bad_stop s k hlt hb).symm.trans Hn.out)
        by_cases h32 : (s[k].toNat : Int) < 32
        · clear hb
          go_wp2
          go_ret
          exact ⟨ret_bool Hr.out, rfl⟩
        · have h127 : (((s[k].toNat : Int) == 127) : Bool) = true := by
            unfold badC at hb; simp at hb
            rw [beq_iff_eq]; omega
          clear hb
          go_wp2
          go_ret
          exact ⟨ret_bool Hr.out, rfl⟩
    · have Hr := Lib.hid ((bad_end s k (by omega)).symm.trans Hn.out)
      go_wp2
      go_ret
      exact ⟨ret_bool Hr.out, rfl⟩
/-- no stroke. -/
theorem cut_none (s : ByteArray) (hh : (headP s.data.toList).length = s.data.toList.length) (w : World) :
    Calls Tryz.prog 103 #[.string s, .string ⟨#[47]⟩] w fun e w' => e = .returned (.tuple #[.string s, .string ⟨#[]⟩, .bool false]) ∧ Dr w w' := by
  have e : Lib.indexByte s.data.toList 47 = -1 := by rw [index_head, if_pos hh]
  have He := Lib.hid e
  clear e hh
  go_enter Tryz.func103, Tryz.ntmps103
  go_wp2_with (go_at_call 91; refine (Tryz.stringslite_Index_one s 47 _).mono ?_; rintro e w' ⟨rfl, rfl⟩; rw [He.out])
  go_ret3
  exact ⟨rfl, Dr.refl _⟩
theorem cut_some (s a r : ByteArray) (k : Nat) (hs : s.size ≤ maxLen) (hk : (headP s.data.toList).length = k) (hh : k < s.size)
    (ha : s.extract 0 k = a) (hr : s.extract (k + 1) s.size = r) (w : World) :
    Calls Tryz.prog 103 #[.string s, .string ⟨#[47]⟩] w fun e w' => e = .returned (.tuple #[.string a, .string r, .bool true]) ∧ Dr w w' := by
  have e : Lib.indexByte s.data.toList 47 = (k : Int) := by rw [index_head, if_neg (by simp; omega), hk]
  have He := Lib.hid e
  have Ha := Lib.hid ha
  have Hr := Lib.hid hr
  clear e hk ha hr
  unfold maxLen at hs
  go_enter Tryz.func103, Tryz.ntmps103
  go_wp2_with (go_at_call 91; refine (Tryz.stringslite_Index_one s 47 _).mono ?_; rintro e w' ⟨rfl, rfl⟩; rw [He.out])
  go_quiet (fail)
  go_wp2
  go_ret3
  refine ⟨ret_val ?_, nq, rfl⟩
  show Value.tuple #[.string (s.extract 0 k), .string (s.extract (k + 1) s.size), .bool true] = _
  rw [Ha.out, Hr.out]
theorem cut_no (s : ByteArray) (hh : (headP s.data.toList).length = s.data.toList.length) (w : World) :
    Calls Tryz.prog 89 #[.string s, .string ⟨#[47]⟩] w fun e w' => e = .returned (.tuple #[.string s, .string ⟨#[]⟩, .bool false]) ∧ Dr w w' := by
  have Hh := Lib.hid hh
  clear hh
  go_enter Tryz.func89, Tryz.ntmps89
  go_wp2_with (go_at_call 103; refine (cut_none s Hh.out _).mono ?_; rintro e w' ⟨rfl, n, rfl⟩)
  go_ret3
  exact ⟨rfl, n, rfl⟩
theorem cut_yes (s a r : ByteArray) (k : Nat) (hs : s.size ≤ maxLen) (hk : (headP s.data.toList).length = k) (hh : k < s.size)
    (ha : s.extract 0 k = a) (hr : s.extract (k + 1) s.size = r) (w : World) :
    Calls Tryz.prog 89 #[.string s, .string ⟨#[47]⟩] w fun e w' => e = .returned (.tuple #[.string a, .string r, .bool true]) ∧ Dr w w' := by
  have Hk := Lib.hid hk
  have Ha := Lib.hid ha
  have Hr := Lib.hid hr
  clear hk ha hr
  go_enter Tryz.func89, Tryz.ntmps89
  go_wp2_with (go_at_call 103; refine (cut_some s a r k hs Hk.out hh Ha.out Hr.out _).mono ?_; rintro e w' ⟨rfl, n, rfl⟩)
  go_ret3
  exact ⟨rfl, n, rfl⟩
/-- both results, as lists tell them. -/
def moreP (l : List UInt8) : Bool := decide ((headP l).length < l.length)
def restP (l : List UInt8) : List UInt8 := l.drop ((headP l).length + 1)
theorem cut_any (s : ByteArray) (hs : s.size ≤ maxLen) (w : World) :
    Calls Tryz.prog 89 #[.string s, .string ⟨#[47]⟩] w fun e w' => e = .returned (.tuple #[.string ⟨(headP s.data.toList).toArray⟩, .string ⟨(restP s.data.toList).toArray⟩, .bool (moreP s.data.toList)]) ∧ Dr w w' := by
  have hlen : s.data.toList.length = s.size := by simp
  by_cases hh : (headP s.data.toList).length = s.data.toList.length
  · refine (cut_no s hh w).mono ?_
    rintro e w' ⟨rfl, hd⟩
    refine ⟨?_, hd⟩
    have h1 : moreP s.data.toList = false := by unfold moreP; rw [decide_eq_false (by omega)]
    have h2 : restP s.data.toList = [] := by unfold restP; exact List.drop_of_length_le (by omega)
    rw [headP_all _ hh, h1, h2]
  · have := headP_len s.data.toList
    refine (cut_yes s _ _ _ hs rfl (by omega) rfl rfl w).mono ?_
    rintro e w' ⟨rfl, hd⟩
    refine ⟨?_, hd⟩
    have h1 : moreP s.data.toList = true := by unfold moreP; rw [decide_eq_true (by omega)]
    rw [h1, extract_take, extract_drop, headP_take]; rfl
end Go.Proofs.YtjopmchbphjliaaGreatDoor
