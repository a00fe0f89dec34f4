/- Contracts of the functions Right and May of package mode and of the document's answers. -/
import Derived.Test.YtmjjhoaplcjjcaaRows
import Derived.WalkKit
import Derived.WalkSpells
import Derived.WalkLawsBesides
import Derived.Laws.BitsAllLaws
import Derived.Deep.QuietTactic
import Derived.BigQuiet
import Derived.Lib.Hide
import Derived.Test.YtmjjhoaplcjjcaaS
namespace Go.Proofs.Ytmjjhoaplcjjcaa
open Go.RowKit

theorem ret_bool {a b : Bool} (h : a = b) : Ending.returned (.bool a) = .returned (.bool b) := by rw [h]
theorem right_any (m : Int) (w : World) :
    Calls Try.prog 12 #[.int .i64 m] w fun e w' => e = .returned (.bool (rightB m)) ∧ w = w' := by
  go_enter Try.func12, Try.ntmps12
  go_wp2
  go_ret
  exact ⟨rfl, rfl⟩

def refRightB (m : Int) : Bool := decide (0 ≤ m) && rightB m
theorem refRight_any (m : Int) (w : World) :
    Calls Try.prog 13 #[.int .i64 m] w fun e w' => e = .returned (.bool (refRightB m)) ∧ w = w' := by
  by_cases h : 0 ≤ m
  · go_enter Try.func13, Try.ntmps13
    go_wp2
    go_ret
    exact ⟨ret_bool (by simp [refRightB, h, rightB]), rfl⟩
  · go_enter Try.func13, Try.ntmps13
    go_wp2
    go_ret
    exact ⟨ret_bool (by unfold refRightB; rw [decide_eq_false (by omega)]; rfl), rfl⟩

def mayB (m owner group : Int) (dir : Bool) (uid gid want : Int) : Bool :=
  if rightB m = true ∧ 1 ≤ want ∧ want ≤ 7 then
    if uid = 0 then (bits .and .i64 want 1 == 0 || (dir || bits .and .i64 m 73 != 0))
    else (bits .andNot .i64 want (if uid = owner then m / 64 else if gid = group then m / 8 else m) == 0)
  else false
def refMayB (m owner group : Int) (dir : Bool) (uid gid want : Int) : Bool :=
  if refRightB m = true ∧ 1 ≤ want ∧ want ≤ 7 then
    if uid = 0 then (dir || (bits .and .i64 want 1 == 0 || bits .and .i64 m 73 != 0))
    else (bits .and .i64 (if uid = owner then bits .and .i64 (m / 64) 7 else if gid = group then bits .and .i64 (m / 8) 7 else bits .and .i64 m 7) want == want)
  else false
set_option maxHeartbeats 1000000 in
theorem may_any (m owner group : Int) (dir : Bool) (uid gid want : Int) (w : World) :
    Calls Try.prog 14 #[.int .i64 m, .int .i64 owner, .int .i64 group, .bool dir, .int .i64 uid, .int .i64 gid, .int .i64 want] w fun e w' => e = .returned (.bool (mayB m owner group dir uid gid want)) ∧ w = w' := by
  by_cases hr : rightB m = true
  · by_cases h1 : want < 1
    · go_enter Try.func14, Try.ntmps14
      go_wp2_with (go_at_call 12; refine (right_any _ _).mono ?_; rintro e w' ⟨rfl, rfl⟩)
      go_ret
      exact ⟨ret_bool (by unfold mayB; rw [if_neg (by omega)]), rfl⟩
    by_cases h7 : 7 < want
    · go_enter Try.func14, Try.ntmps14
      go_wp2_with (go_at_call 12; refine (right_any _ _).mono ?_; rintro e w' ⟨rfl, rfl⟩)
      go_ret
      exact ⟨ret_bool (by unfold mayB; rw [if_neg (by omega)]), rfl⟩
    by_cases h0 : uid = 0
    · have h0' : ((uid : Int) == 0) = true := by simpa using h0
      have H0 := Lib.hid h0; clear h0
      have e : mayB m owner group dir uid gid want = (bits .and .i64 want 1 == 0 || (dir || bits .and .i64 m 73 != 0)) := by unfold mayB; rw [if_pos ⟨hr, by omega, by omega⟩, if_pos H0.out]
      have He := Lib.hid e; clear e
      cases ha : (bits .and .i64 want 1 == 0)
      · cases dir
        · go_enter Try.func14, Try.ntmps14
          go_wp2_with (go_at_call 12; refine (right_any _ _).mono ?_; rintro e w' ⟨rfl, rfl⟩)
          go_ret
          exact ⟨ret_bool (by rw [He.out, ha]; rfl), rfl⟩
        · go_enter Try.func14, Try.ntmps14
          go_wp2_with (go_at_call 12; refine (right_any _ _).mono ?_; rintro e w' ⟨rfl, rfl⟩)
          go_ret
          exact ⟨ret_bool (by rw [He.out, ha]; rfl), rfl⟩
      · go_enter Try.func14, Try.ntmps14
        go_wp2_with (go_at_call 12; refine (right_any _ _).mono ?_; rintro e w' ⟨rfl, rfl⟩)
        go_ret
        exact ⟨ret_bool (by rw [He.out, ha]; rfl), rfl⟩
    have h0' : ((uid : Int) == 0) = false := by simpa using h0
    have e : mayB m owner group dir uid gid want = (bits .andNot .i64 want (if uid = owner then m / 64 else if gid = group then m / 8 else m) == 0) := by unfold mayB; rw [if_pos ⟨hr, by omega, by omega⟩, if_neg h0]
    have He := Lib.hid e; clear e h0
    by_cases ho : uid = owner
    · have ho' : ((uid : Int) == owner) = true := by simpa using ho
      have Ho := Lib.hid ho; clear ho
      go_enter Try.func14, Try.ntmps14
      go_wp2_with (go_at_call 12; refine (right_any _ _).mono ?_; rintro e w' ⟨rfl, rfl⟩)
      go_ret
      exact ⟨ret_bool (by rw [He.out, if_pos Ho.out]), rfl⟩
    have ho' : ((uid : Int) == owner) = false := by simpa using ho
    have Ho := Lib.hid ho; clear ho
    by_cases hg : gid = group
    · have hg' : ((gid : Int) == group) = true := by simpa using hg
      have Hg := Lib.hid hg; clear hg
      go_enter Try.func14, Try.ntmps14
      go_wp2_with (go_at_call 12; refine (right_any _ _).mono ?_; rintro e w' ⟨rfl, rfl⟩)
      go_ret
      exact ⟨ret_bool (by rw [He.out, if_neg Ho.out, if_pos Hg.out]), rfl⟩
    have hg' : ((gid : Int) == group) = false := by simpa using hg
    have Hg := Lib.hid hg; clear hg
    go_enter Try.func14, Try.ntmps14
    go_wp2_with (go_at_call 12; refine (right_any _ _).mono ?_; rintro e w' ⟨rfl, rfl⟩)
    go_ret
    exact ⟨ret_bool (by rw [He.out, if_neg Ho.out, if_neg Hg.out]), rfl⟩
  · have hr' : rightB m = false := by simpa using hr
    go_enter Try.func14, Try.ntmps14
    go_wp2_with (go_at_call 12; refine (right_any _ _).mono ?_; rintro e w' ⟨rfl, rfl⟩)
    go_ret
    exact ⟨ret_bool (by unfold mayB; rw [if_neg (fun h => hr h.1)]), rfl⟩
set_option maxHeartbeats 1000000 in
theorem refMay_any (m owner group : Int) (dir : Bool) (uid gid want : Int) (w : World) :
    Calls Try.prog 15 #[.int .i64 m, .int .i64 owner, .int .i64 group, .bool dir, .int .i64 uid, .int .i64 gid, .int .i64 want] w fun e w' => e = .returned (.bool (refMayB m owner group dir uid gid want)) ∧ w = w' := by
  by_cases hr : refRightB m = true
  · by_cases h1 : want < 1
    · go_enter Try.func15, Try.ntmps15
      go_wp2_with (go_at_call 13; refine (refRight_any _ _).mono ?_; rintro e w' ⟨rfl, rfl⟩)
      go_ret
      exact ⟨ret_bool (by unfold refMayB; rw [if_neg (by omega)]), rfl⟩
    by_cases h7 : 7 < want
    · go_enter Try.func15, Try.ntmps15
      go_wp2_with (go_at_call 13; refine (refRight_any _ _).mono ?_; rintro e w' ⟨rfl, rfl⟩)
      go_ret
      exact ⟨ret_bool (by unfold refMayB; rw [if_neg (by omega)]), rfl⟩
    by_cases h0 : uid = 0
    · have h0' : ((uid : Int) == 0) = true := by simpa using h0
      have H0 := Lib.hid h0; clear h0
      have e : refMayB m owner group dir uid gid want = (dir || (bits .and .i64 want 1 == 0 || bits .and .i64 m 73 != 0)) := by unfold refMayB; rw [if_pos ⟨hr, by omega, by omega⟩, if_pos H0.out]
      have He := Lib.hid e; clear e
      cases dir
      · cases hb : (bits .and .i64 want 1 == 0)
        · go_enter Try.func15, Try.ntmps15
          go_wp2_with (go_at_call 13; refine (refRight_any _ _).mono ?_; rintro e w' ⟨rfl, rfl⟩)
          go_ret
          exact ⟨ret_bool (by rw [He.out, hb]; rfl), rfl⟩
        · go_enter Try.func15, Try.ntmps15
          go_wp2_with (go_at_call 13; refine (refRight_any _ _).mono ?_; rintro e w' ⟨rfl, rfl⟩)
          go_ret
          exact ⟨ret_bool (by rw [He.out, hb]; rfl), rfl⟩
      · go_enter Try.func15, Try.ntmps15
        go_wp2_with (go_at_call 13; refine (refRight_any _ _).mono ?_; rintro e w' ⟨rfl, rfl⟩)
        go_ret
        exact ⟨ret_bool (by rw [He.out]; rfl), rfl⟩
    have h0' : ((uid : Int) == 0) = false := by simpa using h0
    have e : refMayB m owner group dir uid gid want = (bits .and .i64 (if uid = owner then bits .and .i64 (m / 64) 7 else if gid = group then bits .and .i64 (m / 8) 7 else bits .and .i64 m 7) want == want) := by unfold refMayB; rw [if_pos ⟨hr, by omega, by omega⟩, if_neg h0]
    have He := Lib.hid e; clear e h0
    by_cases ho : uid = owner
    · have ho' : ((uid : Int) == owner) = true := by simpa using ho
      have Ho := Lib.hid ho; clear ho
      go_enter Try.func15, Try.ntmps15
      go_wp2_with (go_at_call 13; refine (refRight_any _ _).mono ?_; rintro e w' ⟨rfl, rfl⟩)
      go_ret
      exact ⟨ret_bool (by rw [He.out, if_pos Ho.out]), rfl⟩
    have ho' : ((uid : Int) == owner) = false := by simpa using ho
    have Ho := Lib.hid ho; clear ho
    by_cases hg : gid = group
    · have hg' : ((gid : Int) == group) = true := by simpa using hg
      have Hg := Lib.hid hg; clear hg
      go_enter Try.func15, Try.ntmps15
      go_wp2_with (go_at_call 13; refine (refRight_any _ _).mono ?_; rintro e w' ⟨rfl, rfl⟩)
      go_ret
      exact ⟨ret_bool (by rw [He.out, if_neg Ho.out, if_pos Hg.out]), rfl⟩
    have hg' : ((gid : Int) == group) = false := by simpa using hg
    have Hg := Lib.hid hg; clear hg
    go_enter Try.func15, Try.ntmps15
    go_wp2_with (go_at_call 13; refine (refRight_any _ _).mono ?_; rintro e w' ⟨rfl, rfl⟩)
    go_ret
    exact ⟨ret_bool (by rw [He.out, if_neg Ho.out, if_neg Hg.out]), rfl⟩
  · have hr' : refRightB m = false := by simpa using hr
    go_enter Try.func15, Try.ntmps15
    go_wp2_with (go_at_call 13; refine (refRight_any _ _).mono ?_; rintro e w' ⟨rfl, rfl⟩)
    go_ret
    exact ⟨ret_bool (by unfold refMayB; rw [if_neg (fun h => hr h.1)]), rfl⟩
end Go.Proofs.Ytmjjhoaplcjjcaa
