/- Contracts of the program's truth, lowBits, holds, divide, operate, numberOf. -/
import Derived.Test.YtbmnngliapmgfaaGreatDoorAP
namespace Go.Proofs.YtbmnngliapmgfaaGreatDoor
open Go.RowKit
set_option linter.unusedVariables false
set_option linter.unusedSimpArgs false
theorem truth_any (b : Bool) (w : World) : Calls Tryz.prog 120 #[.bool b] w fun e w' => e = .returned (.int .i64 (truth b)) ∧ w' = w := by
  cases b
  all_goals
    go_enter Tryz.func120, Tryz.ntmps120
    go_wp2
    go_ret
    exact ⟨rfl, rfl⟩
theorem lowBits_any (n : Int) (w : World) : Calls Tryz.prog 119 #[.int .i64 n] w fun e w' => e = .returned (.int .u64 (low6 n)) ∧ w' = w := by
  go_enter Tryz.func119, Tryz.ntmps119
  go_wp2
  go_ret
  exact ⟨rfl, rfl⟩
theorem st_dec (t c : Bs) : ((st t).toList == c) = decide (t = c) := by
  rw [st_eq, Bool.eq_iff_iff, beq_iff_eq, decide_eq_true_eq]
theorem holds_any (t : Bs) (a b : Int) (w : World) : Calls Tryz.prog 121 #[.string (st t), .int .i64 a, .int .i64 b] w fun e w' => e = .returned (.bool (holdI t a b)) ∧ w' = w := by
  have HH := Lib.hid (show holdI t a b = _ from rfl)
  have g := st_eq t
  generalize st t = x at *
  go_enter Tryz.func121, Tryz.ntmps121
  go_wp2
  all_goals
    go_ret
    refine ⟨ret_bool ?_, rfl⟩
    simp_all [holdI]
theorem divide_any (t : Bs) (a b : Int) (w : World) (ht : t = [47] ∨ t = [37]) : Calls Tryz.prog 118 #[.string (st t), .int .i64 a, .int .i64 b] w fun e w' => e = .returned (.tuple #[.int .i64 (opI t a b).1, .int .i64 (opI t a b).2]) ∧ w' = w := by
  have g := st_eq t
  generalize st t = x at *
  by_cases hb : b = 0
  · have E := Lib.hid (show opI t a b = (0, 22) by unfold opI; rw [if_pos ht, if_pos hb])
    clear ht
    go_enter Tryz.func118, Tryz.ntmps118
    go_wp2
    go_ret2
    exact ⟨ret_two (by rw [E.out]; rfl) (by rw [E.out]; rfl), rfl⟩
  · rcases ht with rfl | rfl
    · have E := Lib.hid (show opI [47] a b = (wrap64 (a.tdiv b), 0) by unfold opI; rw [if_pos (.inl rfl), if_neg hb, if_pos rfl])
      have g1 : (x.toList == [47]) = true := by rw [g]; decide
      clear g
      go_enter Tryz.func118, Tryz.ntmps118
      go_wp2
      go_ret2
      exact ⟨ret_two (by rw [E.out]; rfl) (by rw [E.out]; rfl), rfl⟩
    · have E := Lib.hid (show opI [37] a b = (a.tmod b, 0) by unfold opI; rw [if_pos (.inr rfl), if_neg hb, if_neg (by decide)])
      have g1 : (x.toList == [47]) = false := by rw [g]; decide
      clear g
      go_enter Tryz.func118, Tryz.ntmps118
      go_wp2
      go_ret2
      exact ⟨ret_two (by rw [E.out]; rfl) (by rw [E.out]; rfl), rfl⟩
end Go.Proofs.YtbmnngliapmgfaaGreatDoor
