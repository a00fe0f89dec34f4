/- Contract of the program's operate. -/
import Derived.Test.YtbmnngliapmgfaaGreatDoorAQ
namespace Go.Proofs.YtbmnngliapmgfaaGreatDoor
open Go.RowKit
set_option linter.unusedVariables false
set_option linter.unusedSimpArgs false
theorem bits_and_nat (a b : Nat) (ha : a < 18446744073709551616) (hb : b < 18446744073709551616) : bits .and .u64 (a : Int) (b : Int) = ((a &&& b : Nat) : Int) :=
  (bits_nat .u64 64 (by decide) (fun n h0 h1 => by rw [IntKind.wrap_u64]; omega) a b ha hb).1
theorem low6_bounds (n : Int) : 0 ≤ low6 n ∧ low6 n ≤ 63 := by
  obtain ⟨m, hm⟩ : ∃ m : Nat, IntKind.u64.wrap n = (m : Int) := ⟨(IntKind.u64.wrap n).toNat, by have := (wrap_bounds n).1; omega⟩
  have hlt : m < 18446744073709551616 := by have := (wrap_bounds n).2; omega
  have e : low6 n = ((m &&& 63 : Nat) : Int) := by
    unfold low6
    rw [hm]
    exact bits_and_nat m 63 hlt (by decide)
  have := Nat.and_le_right (n := m) (m := 63)
  rw [e]
  omega
theorem op_quo (a b : Int) (w : World) : Calls Tryz.prog 114 #[.string (st [47]), .int .i64 a, .int .i64 b] w fun e w' => e = .returned (.tuple #[.int .i64 (opI [47] a b).1, .int .i64 (opI [47] a b).2]) ∧ w' = w := by
  have g0 : ((st [47]).toList == [47]) = true := by rw [st_eq]; decide
  have g1 : ((st [47]).toList == [37]) = false := by rw [st_eq]; decide
  have g2 : ((st [47]).toList == [60, 60]) = false := by rw [st_eq]; decide
  have g3 : ((st [47]).toList == [62, 62]) = false := by rw [st_eq]; decide
  have g4 : ((st [47]).toList == [42]) = false := by rw [st_eq]; decide
  have g5 : ((st [47]).toList == [43]) = false := by rw [st_eq]; decide
  have g6 : ((st [47]).toList == [45]) = false := by rw [st_eq]; decide
  have g7 : ((st [47]).toList == [38]) = false := by rw [st_eq]; decide
  have g8 : ((st [47]).toList == [94]) = false := by rw [st_eq]; decide
  have g9 : ((st [47]).toList == [124]) = false := by rw [st_eq]; decide
  have HD := Lib.hid (fun w => divide_any [47] a b w (by simp))
  generalize st [47] = x at *
  go_enter Tryz.func114, Tryz.ntmps114
  go_wp2_with (go_at_call 118; (with_reducible refine (HD.out _).mono ?_); rintro e w' ⟨rfl, rfl⟩)
  go_ret2
  exact ⟨rfl, rfl⟩
theorem op_rem (a b : Int) (w : World) : Calls Tryz.prog 114 #[.string (st [37]), .int .i64 a, .int .i64 b] w fun e w' => e = .returned (.tuple #[.int .i64 (opI [37] a b).1, .int .i64 (opI [37] a b).2]) ∧ w' = w := by
  have g0 : ((st [37]).toList == [47]) = false := by rw [st_eq]; decide
  have g1 : ((st [37]).toList == [37]) = true := by rw [st_eq]; decide
  have g2 : ((st [37]).toList == [60, 60]) = false := by rw [st_eq]; decide
  have g3 : ((st [37]).toList == [62, 62]) = false := by rw [st_eq]; decide
  have g4 : ((st [37]).toList == [42]) = false := by rw [st_eq]; decide
  have g5 : ((st [37]).toList == [43]) = false := by rw [st_eq]; decide
  have g6 : ((st [37]).toList == [45]) = false := by rw [st_eq]; decide
  have g7 : ((st [37]).toList == [38]) = false := by rw [st_eq]; decide
  have g8 : ((st [37]).toList == [94]) = false := by rw [st_eq]; decide
  have g9 : ((st [37]).toList == [124]) = false := by rw [st_eq]; decide
  have HD := Lib.hid (fun w => divide_any [37] a b w (by simp))
  generalize st [37] = x at *
  go_enter Tryz.func114, Tryz.ntmps114
  go_wp2_with (go_at_call 118; (with_reducible refine (HD.out _).mono ?_); rintro e w' ⟨rfl, rfl⟩)
  go_ret2
  exact ⟨rfl, rfl⟩
theorem op_shl (a b : Int) (w : World) : Calls Tryz.prog 114 #[.string (st [60, 60]), .int .i64 a, .int .i64 b] w fun e w' => e = .returned (.tuple #[.int .i64 (opI [60, 60] a b).1, .int .i64 (opI [60, 60] a b).2]) ∧ w' = w := by
  have g0 : ((st [60, 60]).toList == [47]) = false := by rw [st_eq]; decide
  have g1 : ((st [60, 60]).toList == [37]) = false := by rw [st_eq]; decide
  have g2 : ((st [60, 60]).toList == [60, 60]) = true := by rw [st_eq]; decide
  have g3 : ((st [60, 60]).toList == [62, 62]) = false := by rw [st_eq]; decide
  have g4 : ((st [60, 60]).toList == [42]) = false := by rw [st_eq]; decide
  have g5 : ((st [60, 60]).toList == [43]) = false := by rw [st_eq]; decide
  have g6 : ((st [60, 60]).toList == [45]) = false := by rw [st_eq]; decide
  have g7 : ((st [60, 60]).toList == [38]) = false := by rw [st_eq]; decide
  have g8 : ((st [60, 60]).toList == [94]) = false := by rw [st_eq]; decide
  have g9 : ((st [60, 60]).toList == [124]) = false := by rw [st_eq]; decide
  obtain ⟨l0, l1⟩ := low6_bounds b
  have HL := Lib.hid (lowBits_any b)
  have E := Lib.hid (show opI [60, 60] a b = (wrap64 (a * 2 ^ (low6 b).toNat), 0) from rfl)
  generalize st [60, 60] = x at *
  generalize low6 b = z at *
  go_enter Tryz.func114, Tryz.ntmps114
  go_wp2_with (go_at_call 119; (with_reducible refine (HL.out _).mono ?_); rintro e w' ⟨rfl, rfl⟩)
  go_ret2
  exact ⟨ret_two (by rw [E.out]; rfl) (by rw [E.out]; rfl), rfl⟩
theorem op_shr (a b : Int) (w : World) : Calls Tryz.prog 114 #[.string (st [62, 62]), .int .i64 a, .int .i64 b] w fun e w' => e = .returned (.tuple #[.int .i64 (opI [62, 62] a b).1, .int .i64 (opI [62, 62] a b).2]) ∧ w' = w := by
  have g0 : ((st [62, 62]).toList == [47]) = false := by rw [st_eq]; decide
  have g1 : ((st [62, 62]).toList == [37]) = false := by rw [st_eq]; decide
  have g2 : ((st [62, 62]).toList == [60, 60]) = false := by rw [st_eq]; decide
  have g3 : ((st [62, 62]).toList == [62, 62]) = true := by rw [st_eq]; decide
  have g4 : ((st [62, 62]).toList == [42]) = false := by rw [st_eq]; decide
  have g5 : ((st [62, 62]).toList == [43]) = false := by rw [st_eq]; decide
  have g6 : ((st [62, 62]).toList == [45]) = false := by rw [st_eq]; decide
  have g7 : ((st [62, 62]).toList == [38]) = false := by rw [st_eq]; decide
  have g8 : ((st [62, 62]).toList == [94]) = false := by rw [st_eq]; decide
  have g9 : ((st [62, 62]).toList == [124]) = false := by rw [st_eq]; decide
  obtain ⟨l0, l1⟩ := low6_bounds b
  have HL := Lib.hid (lowBits_any b)
  have E := Lib.hid (show opI [62, 62] a b = (a / 2 ^ (low6 b).toNat, 0) from rfl)
  generalize st [62, 62] = x at *
  generalize low6 b = z at *
  go_enter Tryz.func114, Tryz.ntmps114
  go_wp2_with (go_at_call 119; (with_reducible refine (HL.out _).mono ?_); rintro e w' ⟨rfl, rfl⟩)
  go_ret2
  exact ⟨ret_two (by rw [E.out]; rfl) (by rw [E.out]; rfl), rfl⟩
theorem op_mul (a b : Int) (w : World) : Calls Tryz.prog 114 #[.string (st [42]), .int .i64 a, .int .i64 b] w fun e w' => e = .returned (.tuple #[.int .i64 (opI [42] a b).1, .int .i64 (opI [42] a b).2]) ∧ w' = w := by
  have g0 : ((st [42]).toList == [47]) = false := by rw [st_eq]; decide
  have g1 : ((st [42]).toList == [37]) = false := by rw [st_eq]; decide
  have g2 : ((st [42]).toList == [60, 60]) = false := by rw [st_eq]; decide
  have g3 : ((st [42]).toList == [62, 62]) = false := by rw [st_eq]; decide
  have g4 : ((st [42]).toList == [42]) = true := by rw [st_eq]; decide
  have g5 : ((st [42]).toList == [43]) = false := by rw [st_eq]; decide
  have g6 : ((st [42]).toList == [45]) = false := by rw [st_eq]; decide
  have g7 : ((st [42]).toList == [38]) = false := by rw [st_eq]; decide
  have g8 : ((st [42]).toList == [94]) = false := by rw [st_eq]; decide
  have g9 : ((st [42]).toList == [124]) = false := by rw [st_eq]; decide
  have E := Lib.hid (show opI [42] a b = (wrap64 (a * b), 0) from rfl)
  generalize st [42] = x at *
  go_enter Tryz.func114, Tryz.ntmps114
  go_wp2
  go_ret2
  exact ⟨ret_two (by rw [E.out]; rfl) (by rw [E.out]; rfl), rfl⟩
theorem op_add (a b : Int) (w : World) : Calls Tryz.prog 114 #[.string (st [43]), .int .i64 a, .int .i64 b] w fun e w' => e = .returned (.tuple #[.int .i64 (opI [43] a b).1, .int .i64 (opI [43] a b).2]) ∧ w' = w := by
  have g0 : ((st [43]).toList == [47]) = false := by rw [st_eq]; decide
  have g1 : ((st [43]).toList == [37]) = false := by rw [st_eq]; decide
  have g2 : ((st [43]).toList == [60, 60]) = false := by rw [st_eq]; decide
  have g3 : ((st [43]).toList == [62, 62]) = false := by rw [st_eq]; decide
  have g4 : ((st [43]).toList == [42]) = false := by rw [st_eq]; decide
  have g5 : ((st [43]).toList == [43]) = true := by rw [st_eq]; decide
  have g6 : ((st [43]).toList == [45]) = false := by rw [st_eq]; decide
  have g7 : ((st [43]).toList == [38]) = false := by rw [st_eq]; decide
  have g8 : ((st [43]).toList == [94]) = false := by rw [st_eq]; decide
  have g9 : ((st [43]).toList == [124]) = false := by rw [st_eq]; decide
  have E := Lib.hid (show opI [43] a b = (wrap64 (a + b), 0) from rfl)
  generalize st [43] = x at *
  go_enter Tryz.func114, Tryz.ntmps114
  go_wp2
  go_ret2
  exact ⟨ret_two (by rw [E.out]; rfl) (by rw [E.out]; rfl), rfl⟩
theorem op_sub (a b : Int) (w : World) : Calls Tryz.prog 114 #[.string (st [45]), .int .i64 a, .int .i64 b] w fun e w' => e = .returned (.tuple #[.int .i64 (opI [45] a b).1, .int .i64 (opI [45] a b).2]) ∧ w' = w := by
  have g0 : ((st [45]).toList == [47]) = false := by rw [st_eq]; decide
  have g1 : ((st [45]).toList == [37]) = false := by rw [st_eq]; decide
  have g2 : ((st [45]).toList == [60, 60]) = false := by rw [st_eq]; decide
  have g3 : ((st [45]).toList == [62, 62]) = false := by rw [st_eq]; decide
  have g4 : ((st [45]).toList == [42]) = false := by rw [st_eq]; decide
  have g5 : ((st [45]).toList == [43]) = false := by rw [st_eq]; decide
  have g6 : ((st [45]).toList == [45]) = true := by rw [st_eq]; decide
  have g7 : ((st [45]).toList == [38]) = false := by rw [st_eq]; decide
  have g8 : ((st [45]).toList == [94]) = false := by rw [st_eq]; decide
  have g9 : ((st [45]).toList == [124]) = false := by rw [st_eq]; decide
  have E := Lib.hid (show opI [45] a b = (wrap64 (a - b), 0) from rfl)
  generalize st [45] = x at *
  go_enter Tryz.func114, Tryz.ntmps114
  go_wp2
  go_ret2
  exact ⟨ret_two (by rw [E.out]; rfl) (by rw [E.out]; rfl), rfl⟩
theorem op_and (a b : Int) (w : World) : Calls Tryz.prog 114 #[.string (st [38]), .int .i64 a, .int .i64 b] w fun e w' => e = .returned (.tuple #[.int .i64 (opI [38] a b).1, .int .i64 (opI [38] a b).2]) ∧ w' = w := by
  have g0 : ((st [38]).toList == [47]) = false := by rw [st_eq]; decide
  have g1 : ((st [38]).toList == [37]) = false := by rw [st_eq]; decide
  have g2 : ((st [38]).toList == [60, 60]) = false := by rw [st_eq]; decide
  have g3 : ((st [38]).toList == [62, 62]) = false := by rw [st_eq]; decide
  have g4 : ((st [38]).toList == [42]) = false := by rw [st_eq]; decide
  have g5 : ((st [38]).toList == [43]) = false := by rw [st_eq]; decide
  have g6 : ((st [38]).toList == [45]) = false := by rw [st_eq]; decide
  have g7 : ((st [38]).toList == [38]) = true := by rw [st_eq]; decide
  have g8 : ((st [38]).toList == [94]) = false := by rw [st_eq]; decide
  have g9 : ((st [38]).toList == [124]) = false := by rw [st_eq]; decide
  have E := Lib.hid (show opI [38] a b = (bits .and .i64 a b, 0) from rfl)
  generalize st [38] = x at *
  go_enter Tryz.func114, Tryz.ntmps114
  go_wp2
  go_ret2
  exact ⟨ret_two (by rw [E.out]; rfl) (by rw [E.out]; rfl), rfl⟩
theorem op_xor (a b : Int) (w : World) : Calls Tryz.prog 114 #[.string (st [94]), .int .i64 a, .int .i64 b] w fun e w' => e = .returned (.tuple #[.int .i64 (opI [94] a b).1, .int .i64 (opI [94] a b).2]) ∧ w' = w := by
  have g0 : ((st [94]).toList == [47]) = false := by rw [st_eq]; decide
  have g1 : ((st [94]).toList == [37]) = false := by rw [st_eq]; decide
  have g2 : ((st [94]).toList == [60, 60]) = false := by rw [st_eq]; decide
  have g3 : ((st [94]).toList == [62, 62]) = false := by rw [st_eq]; decide
  have g4 : ((st [94]).toList == [42]) = false := by rw [st_eq]; decide
  have g5 : ((st [94]).toList == [43]) = false := by rw [st_eq]; decide
  have g6 : ((st [94]).toList == [45]) = false := by rw [st_eq]; decide
  have g7 : ((st [94]).toList == [38]) = false := by rw [st_eq]; decide
  have g8 : ((st [94]).toList == [94]) = true := by rw [st_eq]; decide
  have g9 : ((st [94]).toList == [124]) = false := by rw [st_eq]; decide
  have E := Lib.hid (show opI [94] a b = (bits .xor .i64 a b, 0) from rfl)
  generalize st [94] = x at *
  go_enter Tryz.func114, Tryz.ntmps114
  go_wp2
  go_ret2
  exact ⟨ret_two (by rw [E.out]; rfl) (by rw [E.out]; rfl), rfl⟩
theorem op_or (a b : Int) (w : World) : Calls Tryz.prog 114 #[.string (st [124]), .int .i64 a, .int .i64 b] w fun e w' => e = .returned (.tuple #[.int .i64 (opI [124] a b).1, .int .i64 (opI [124] a b).2]) ∧ w' = w := by
  have g0 : ((st [124]).toList == [47]) = false := by rw [st_eq]; decide
  have g1 : ((st [124]).toList == [37]) = false := by rw [st_eq]; decide
  have g2 : ((st [124]).toList == [60, 60]) = false := by rw [st_eq]; decide
  have g3 : ((st [124]).toList == [62, 62]) = false := by rw [st_eq]; decide
  have g4 : ((st [124]).toList == [42]) = false := by rw [st_eq]; decide
  have g5 : ((st [124]).toList == [43]) = false := by rw [st_eq]; decide
  have g6 : ((st [124]).toList == [45]) = false := by rw [st_eq]; decide
  have g7 : ((st [124]).toList == [38]) = false := by rw [st_eq]; decide
  have g8 : ((st [124]).toList == [94]) = false := by rw [st_eq]; decide
  have g9 : ((st [124]).toList == [124]) = true := by rw [st_eq]; decide
  have E := Lib.hid (show opI [124] a b = (bits .or .i64 a b, 0) from rfl)
  generalize st [124] = x at *
  go_enter Tryz.func114, Tryz.ntmps114
  go_wp2
  go_ret2
  exact ⟨ret_two (by rw [E.out]; rfl) (by rw [E.out]; rfl), rfl⟩
theorem op_else (t : Bs) (a b : Int) (w : World) (n0 : t ≠ [47]) (n1 : t ≠ [37]) (n2 : t ≠ [60, 60]) (n3 : t ≠ [62, 62]) (n4 : t ≠ [42]) (n5 : t ≠ [43]) (n6 : t ≠ [45]) (n7 : t ≠ [38]) (n8 : t ≠ [94]) (n9 : t ≠ [124]) : Calls Tryz.prog 114 #[.string (st t), .int .i64 a, .int .i64 b] w fun e w' => e = .returned (.tuple #[.int .i64 (opI t a b).1, .int .i64 (opI t a b).2]) ∧ w' = w := by
  have g0 : ((st t).toList == [47]) = false := by rw [st_eq, beq_eq_false_iff_ne]; exact n0
  have g1 : ((st t).toList == [37]) = false := by rw [st_eq, beq_eq_false_iff_ne]; exact n1
  have g2 : ((st t).toList == [60, 60]) = false := by rw [st_eq, beq_eq_false_iff_ne]; exact n2
  have g3 : ((st t).toList == [62, 62]) = false := by rw [st_eq, beq_eq_false_iff_ne]; exact n3
  have g4 : ((st t).toList == [42]) = false := by rw [st_eq, beq_eq_false_iff_ne]; exact n4
  have g5 : ((st t).toList == [43]) = false := by rw [st_eq, beq_eq_false_iff_ne]; exact n5
  have g6 : ((st t).toList == [45]) = false := by rw [st_eq, beq_eq_false_iff_ne]; exact n6
  have g7 : ((st t).toList == [38]) = false := by rw [st_eq, beq_eq_false_iff_ne]; exact n7
  have g8 : ((st t).toList == [94]) = false := by rw [st_eq, beq_eq_false_iff_ne]; exact n8
  have g9 : ((st t).toList == [124]) = false := by rw [st_eq, beq_eq_false_iff_ne]; exact n9
  have E := Lib.hid (show opI t a b = (truth (holdI t a b), 0) by
    unfold opI
    rw [if_neg (fun h => h.elim n0 n1), if_neg n2, if_neg n3, if_neg n4, if_neg n5, if_neg n6, if_neg n7, if_neg n8, if_neg n9])
  have HH := Lib.hid (holds_any t a b)
  have HT := Lib.hid (truth_any (holdI t a b))
  generalize holdI t a b = z at *
  generalize st t = x at *
  clear n0 n1 n2 n3 n4 n5 n6 n7 n8 n9
  go_enter Tryz.func114, Tryz.ntmps114
  go_wp2_with (first | (go_at_call 121; (with_reducible refine (HH.out _).mono ?_); rintro e w' ⟨rfl, rfl⟩) | (go_at_call 120; (with_reducible refine (HT.out _).mono ?_); rintro e w' ⟨rfl, rfl⟩))
  go_ret2
  exact ⟨ret_two (by rw [E.out]; rfl) (by rw [E.out]; rfl), rfl⟩
theorem operate_any (t : Bs) (a b : Int) (w : World) : Calls Tryz.prog 114 #[.string (st t), .int .i64 a, .int .i64 b] w fun e w' => e = .returned (.tuple #[.int .i64 (opI t a b).1, .int .i64 (opI t a b).2]) ∧ w' = w := by
  by_cases n0 : t = [47]
  · subst n0; exact op_quo a b w
  by_cases n1 : t = [37]
  · subst n1; exact op_rem a b w
  by_cases n2 : t = [60, 60]
  · subst n2; exact op_shl a b w
  by_cases n3 : t = [62, 62]
  · subst n3; exact op_shr a b w
  by_cases n4 : t = [42]
  · subst n4; exact op_mul a b w
  by_cases n5 : t = [43]
  · subst n5; exact op_add a b w
  by_cases n6 : t = [45]
  · subst n6; exact op_sub a b w
  by_cases n7 : t = [38]
  · subst n7; exact op_and a b w
  by_cases n8 : t = [94]
  · subst n8; exact op_xor a b w
  by_cases n9 : t = [124]
  · subst n9; exact op_or a b w
  exact op_else t a b w n0 n1 n2 n3 n4 n5 n6 n7 n8 n9
end Go.Proofs.YtbmnngliapmgfaaGreatDoor
