/- Contracts of the functions that read a change's letters. -/
import Derived.Test.YtmjjhoaplcjjcaaW1
import Derived.Laws.BitsAllLaws
namespace Go.Proofs.Ytmjjhoaplcjjcaa
open Go.RowKit

theorem kind_any (k : Int) (w : World) :
    Calls Try.prog 23 #[.int .i64 k] w fun e w' => e = .returned (.tuple #[.int .u8 (if k = 0 then 45 else if k = 1 then 100 else if k = 2 then 99 else 0), .bool (decide (0 ≤ k) && decide (k ≤ 2))]) ∧ w = w' := by
  by_cases h0 : k = 0
  · subst h0
    go_enter Try.func23, Try.ntmps23
    go_wp2
    go_ret2
    exact ⟨rfl, rfl⟩
  by_cases h1 : k = 1
  · subst h1
    go_enter Try.func23, Try.ntmps23
    go_wp2
    go_ret2
    exact ⟨rfl, rfl⟩
  by_cases h2 : k = 2
  · subst h2
    go_enter Try.func23, Try.ntmps23
    go_wp2
    go_ret2
    exact ⟨rfl, rfl⟩
  have h0' : (k == 0) = false := by simpa using h0
  have h1' : (k == 1) = false := by simpa using h1
  have h2' : (k == 2) = false := by simpa using h2
  have hb : (decide (0 ≤ k) && decide (k ≤ 2)) = false := by
    by_cases h : 0 ≤ k
    · rw [decide_eq_false (by omega : ¬ k ≤ 2), Bool.and_false]
    · rw [decide_eq_false h, Bool.false_and]
  have hi : (if k = 0 then 45 else if k = 1 then 100 else if k = 2 then 99 else 0 : Int) = 0 := by rw [if_neg h0, if_neg h1, if_neg h2]
  rw [hb, hi]
  clear hb hi
  go_enter Try.func23, Try.ntmps23
  go_wp2
  go_ret2
  exact ⟨rfl, rfl⟩

theorem mark_any (a b c : Int) (w : World) :
    Calls Try.prog 24 #[.int .u8 a, .int .u8 b, .int .u8 c] w fun e w' => e = .returned (.int .u8 (if (a == 120) = true then b else c)) ∧ w = w' := by
  cases h : a == 120
  · go_enter Try.func24, Try.ntmps24
    go_wp2
    go_ret
    exact ⟨rfl, rfl⟩
  · go_enter Try.func24, Try.ntmps24
    go_wp2
    go_ret
    exact ⟨rfl, rfl⟩

theorem octN_step (s : ByteArray) (k v : Nat) (h : k < s.size) (h1 : 48 ≤ s[k].toNat) (h2 : s[k].toNat ≤ 55) :
    octN (s.data.toList.drop k) v = octN (s.data.toList.drop (k + 1)) (8 * v + (s[k].toNat - 48)) := by
  rw [drop_eq s k h, octN, if_pos ⟨h1, h2⟩]
theorem octN_stop (s : ByteArray) (k v : Nat) (h : k < s.size) (h1 : ¬ (48 ≤ s[k].toNat ∧ s[k].toNat ≤ 55)) :
    octN (s.data.toList.drop k) v = none := by
  rw [drop_eq s k h, octN, if_neg h1]
theorem octN_end (s : ByteArray) (k v : Nat) (h : s.size ≤ k) : octN (s.data.toList.drop k) v = some v := by
  rw [List.drop_of_length_le (by simpa using h), octN]
def octV (o : Option Nat) : Value := optV (o.map fun n => (n : Int))
theorem octS_none (s : ByteArray) (h : s.size < 1 ∨ 5 < s.size) : octV (octS s.data.toList) = .tuple #[.int .i64 0, .bool false] := by
  unfold octS
  have : s.data.toList.length = s.size := by simp
  rw [if_neg (by omega)]; rfl
theorem octS_of (s : ByteArray) (h1 : ¬ s.size < 1) (h5 : ¬ 5 < s.size) : octS s.data.toList = Option.filter (fun n : Nat => rightB (n : Int)) (octN s.data.toList 0) := by
  unfold octS
  have : s.data.toList.length = s.size := by simp
  rw [if_pos (by omega)]
theorem octS_bad (s : ByteArray) (h1 : ¬ s.size < 1) (h5 : ¬ 5 < s.size) (hn : octN s.data.toList 0 = none) : octV (octS s.data.toList) = .tuple #[.int .i64 0, .bool false] := by
  rw [octS_of s h1 h5, hn]; rfl
theorem octS_good (s : ByteArray) (h1 : ¬ s.size < 1) (h5 : ¬ 5 < s.size) (v : Nat) (hn : octN s.data.toList 0 = some v) (hr : rightB (v : Int) = true) : octV (octS s.data.toList) = .tuple #[.int .i64 v, .bool true] := by
  rw [octS_of s h1 h5, hn, Option.filter_some, if_pos hr]; rfl
theorem octS_wrong (s : ByteArray) (h1 : ¬ s.size < 1) (h5 : ¬ 5 < s.size) (v : Nat) (hn : octN s.data.toList 0 = some v) (hr : rightB (v : Int) = false) : octV (octS s.data.toList) = .tuple #[.int .i64 0, .bool false] := by
  rw [octS_of s h1 h5, hn, Option.filter_some, hr]; rfl
theorem oct_join (v : Nat) (c : UInt8) (hv : v < 32768) (h1 : 48 ≤ (c.toNat : Int)) (h2 : (c.toNat : Int) ≤ 55) :
    bits .or .i64 ((v : Int) * 8) ((c.toNat : Int) - 48) = ((8 * v + (c.toNat - 48) : Nat) : Int) := by
  have e1 : (v : Int) * 8 = ((v * 8 : Nat) : Int) := by omega
  have e2 : (c.toNat : Int) - 48 = ((c.toNat - 48 : Nat) : Int) := by omega
  rw [e1, e2, or_nat _ _ (by omega) (by omega), nat_join 3 _ _ (by omega) (by omega)]
  omega
theorem ret_val {a b : Value} (h : a = b) : Ending.returned a = .returned b := by rw [h]
theorem pow_le (k : Nat) (h : k ≤ 5) : 8 ^ k ≤ 32768 := Nat.le_trans (Nat.pow_le_pow_right (by decide) h) (by decide)

def octRel (s : ByteArray) (n i : Value) : Prop :=
  ∃ k v : Nat, k ≤ s.size ∧ i = .int .i64 k ∧ n = .int .i64 v ∧ v < 8 ^ k ∧ octN (s.data.toList.drop k) v = octN s.data.toList 0

set_option maxHeartbeats 800000 in
theorem octal_any (s : ByteArray) (hs : s.size ≤ maxLen) (w : World) :
    Calls Try.prog 16 #[.string s] w fun e w' => e = .returned (octV (octS s.data.toList)) ∧ w = w' := by
  unfold maxLen at hs
  by_cases h1 : s.size < 1
  · go_enter Try.func16, Try.ntmps16
    go_wp2
    go_ret2
    exact ⟨ret_val (octS_none s (Or.inl h1)).symm, rfl⟩
  by_cases h5 : 5 < s.size
  · go_enter Try.func16, Try.ntmps16
    go_wp2
    go_ret2
    exact ⟨ret_val (octS_none s (Or.inr h5)).symm, rfl⟩
  go_enter Try.func16, Try.ntmps16
  go_wp2
  go_loop [4, 5, 16] (fun n _ i => octRel s n i) (fun _ _ i => s.size - (intOf i).toNat)
  case atStart => exact ⟨0, 0, Nat.zero_le _, rfl, rfl, by decide, rfl⟩
  case round =>
    obtain ⟨k, v, hk, rfl, rfl, hv, hn⟩ := hrel
    have Hn := Lib.hid hn; clear hn
    have Hv := Lib.hid hv; clear hv
    by_cases hlt : k < s.size
    · have hp := pow_le k (by omega)
      have hv' : v < 32768 := Nat.lt_of_lt_of_le Hv.out hp
      clear hp
      go_wp2
      · go_ret2
        exact ⟨ret_val (octS_bad s h1 h5 (by rw [← Hn.out]; exact octN_stop s k v hlt (by omega))).symm, rfl⟩
      · have g1 : 48 ≤ (s[k].toNat : Int) := by assumption
        have g2 : 48 ≤ (s[k].toNat : Int) ∧ (s[k].toNat : Int) ≤ 55 := by assumption
        go_round
        case rel => exact ⟨k + 1, 8 * v + (s[k].toNat - 48), by omega, by go_num, by rw [oct_join v _ hv' g1 g2.2], by have := Hv.out; rw [Nat.pow_succ]; omega, by rw [← Hn.out]; exact (octN_step s k v hlt (by omega) (by omega)).symm⟩
        case measure => simp [intOf]; omega
      · go_ret2
        exact ⟨ret_val (octS_bad s h1 h5 (by rw [← Hn.out]; exact octN_stop s k v hlt (by omega))).symm, rfl⟩
    · cases hr : rightB (v : Int)
      · go_wp2_with (go_at_call 12; refine (right_any _ _).mono ?_; rintro e w' ⟨rfl, rfl⟩)
        go_ret2
        exact ⟨ret_val (octS_wrong s h1 h5 v (by rw [← Hn.out]; exact octN_end s k v (by omega)) hr).symm, rfl⟩
      · go_wp2_with (go_at_call 12; refine (right_any _ _).mono ?_; rintro e w' ⟨rfl, rfl⟩)
        go_ret2
        exact ⟨ret_val (octS_good s h1 h5 v (by rw [← Hn.out]; exact octN_end s k v (by omega)) hr).symm, rfl⟩

set_option maxHeartbeats 800000 in
theorem refOctal_any (s : ByteArray) (hs : s.size ≤ maxLen) (w : World) :
    Calls Try.prog 17 #[.string s] w fun e w' => e = .returned (octV (octS s.data.toList)) ∧ w = w' := by
  unfold maxLen at hs
  by_cases h1 : s.size < 1
  · go_enter Try.func17, Try.ntmps17
    go_wp2
    go_ret2
    exact ⟨ret_val (octS_none s (Or.inl h1)).symm, rfl⟩
  by_cases h5 : 5 < s.size
  · go_enter Try.func17, Try.ntmps17
    go_wp2
    go_ret2
    exact ⟨ret_val (octS_none s (Or.inr h5)).symm, rfl⟩
  go_enter Try.func17, Try.ntmps17
  go_wp2
  go_loop [4, 5] (fun n i => octRel s n i) (fun _ i => s.size - (intOf i).toNat)
  case atStart => exact ⟨0, 0, Nat.zero_le _, rfl, rfl, by decide, rfl⟩
  case round =>
    obtain ⟨k, v, hk, rfl, rfl, hv, hn⟩ := hrel
    have Hn := Lib.hid hn; clear hn
    have Hv := Lib.hid hv; clear hv
    by_cases hlt : k < s.size
    · have hp := pow_le k (by omega)
      have hv' : v < 32768 := Nat.lt_of_lt_of_le Hv.out hp
      clear hp
      go_wp2
      · go_ret2
        exact ⟨ret_val (octS_bad s h1 h5 (by rw [← Hn.out]; exact octN_stop s k v hlt (by omega))).symm, rfl⟩
      · have g1 : 48 ≤ (s[k].toNat : Int) := by assumption
        have g2 : 48 ≤ (s[k].toNat : Int) ∧ (s[k].toNat : Int) ≤ 55 := by assumption
        go_round
        case rel => exact ⟨k + 1, 8 * v + (s[k].toNat - 48), by omega, by go_num, congrArg (Value.int .i64) (by omega), by have := Hv.out; rw [Nat.pow_succ]; omega, by rw [← Hn.out]; exact (octN_step s k v hlt (by omega) (by omega)).symm⟩
        case measure => simp [intOf]; omega
      · go_ret2
        exact ⟨ret_val (octS_bad s h1 h5 (by rw [← Hn.out]; exact octN_stop s k v hlt (by omega))).symm, rfl⟩
    · cases hr : rightB (v : Int)
      · have hr2 : (bits .andNot .i64 (v : Int) 3071 != 0) = true := by unfold rightB at hr; rw [bne, hr]; rfl
        go_wp2_with (fail)
        go_ret2
        exact ⟨ret_val (octS_wrong s h1 h5 v (by rw [← Hn.out]; exact octN_end s k v (by omega)) hr).symm, rfl⟩
      · have hr2 : (bits .andNot .i64 (v : Int) 3071 != 0) = false := by unfold rightB at hr; rw [bne, hr]; rfl
        go_wp2_with (fail)
        go_ret2
        exact ⟨ret_val (octS_good s h1 h5 v (by rw [← Hn.out]; exact octN_end s k v (by omega)) hr).symm, rfl⟩
end Go.Proofs.Ytmjjhoaplcjjcaa
