/- The parser's tests on texts and tokens. -/
import Derived.Test.YtoahgblgchmclaaLB
import Derived.Test.YtoahgblgchmclaaPB
namespace Go.Proofs.Ytoahgblgchmclaa
open Go.RowKit
set_option linter.unusedVariables false
set_option linter.unusedSimpArgs false
theorem st_no (t p : Bs) (h : ¬ t = p) : (((st t).toList == p) : Bool) = false ∧ (((st t).toList != p) : Bool) = true := by
  rw [st_toList]
  have : (t == p) = false := by rw [beq_eq_false_iff_ne]; exact h
  exact ⟨this, by rw [bne, this]; rfl⟩
theorem st_yes (t : Bs) : (((st t).toList == t) : Bool) = true ∧ (((st t).toList != t) : Bool) = false := by
  rw [st_toList]
  have : (t == t) = true := beq_self_eq_true t
  exact ⟨this, by rw [bne, this]; rfl⟩


theorem isLetter_any (c : UInt8) (w : World) :
    Calls Try.prog 82 #[.int .u8 c.toNat] w fun e w' => e = .returned (.bool (pLet c)) ∧ w' = w := by
  have HD := Lib.hid (show pLet c = ((decide (97 ≤ c.toNat) && decide (c.toNat ≤ 122)) || (decide (65 ≤ c.toNat) && decide (c.toNat ≤ 90)) || decide (c.toNat = 95)) from rfl)
  go_enter Try.func82, Try.ntmps82
  go_wp2
  all_goals
    go_ret
    refine ⟨ret_bool ?_, rfl⟩
    rw [HD.out, Bool.eq_iff_iff]
    simp only [Bool.and_eq_true, Bool.or_eq_true, decide_eq_true_eq, Bool.false_eq_true, true_iff, false_iff, beq_iff_eq]
    try omega
theorem pIsDigit_any (c : UInt8) (w : World) :
    Calls Try.prog 83 #[.int .u8 c.toNat] w fun e w' => e = .returned (.bool (isDig c)) ∧ w' = w := by
  have HD := Lib.hid (show isDig c = (decide (48 ≤ c.toNat) && decide (c.toNat ≤ 57)) from rfl)
  go_enter Try.func83, Try.ntmps83
  go_wp2
  all_goals
    go_ret
    refine ⟨ret_bool ?_, rfl⟩
    rw [HD.out, Bool.eq_iff_iff]
    simp only [Bool.and_eq_true, Bool.or_eq_true, decide_eq_true_eq, Bool.false_eq_true, true_iff, false_iff, beq_iff_eq]
    try omega

set_option maxHeartbeats 4000000 in
theorem isRes_any (t : Bs) (w : World) :
    Calls Try.prog 50 #[.string (st t)] w fun e w' => e = .returned (.bool (isRes t)) ∧ w' = w := by
  by_cases hr : isRes t = true
  · have hm : t ∈ resWords := List.contains_iff_mem.1 hr
    unfold resWords at hm
    simp only [List.mem_cons, List.mem_nil_iff, or_false] at hm
    rcases hm with rfl | rfl | rfl | rfl | rfl | rfl | rfl | rfl | rfl | rfl | rfl | rfl | rfl | rfl | rfl | rfl
    · have f0 := (st_yes [33]).1
      go_enter Try.func50, Try.ntmps50
      go_wp2
      go_ret
      exact ⟨rfl, rfl⟩
    · have f0 := (st_no [123] [33] (by decide)).1; have f1 := (st_yes [123]).1
      go_enter Try.func50, Try.ntmps50
      go_wp2
      go_ret
      exact ⟨rfl, rfl⟩
    · have f0 := (st_no [125] [33] (by decide)).1; have f1 := (st_no [125] [123] (by decide)).1; have f2 := (st_yes [125]).1
      go_enter Try.func50, Try.ntmps50
      go_wp2
      go_ret
      exact ⟨rfl, rfl⟩
    · have f0 := (st_no [99, 97, 115, 101] [33] (by decide)).1; have f1 := (st_no [99, 97, 115, 101] [123] (by decide)).1; have f2 := (st_no [99, 97, 115, 101] [125] (by decide)).1; have f3 := (st_yes [99, 97, 115, 101]).1
      go_enter Try.func50, Try.ntmps50
      go_wp2
      go_ret
      exact ⟨rfl, rfl⟩
    · have f0 := (st_no [100, 111] [33] (by decide)).1; have f1 := (st_no [100, 111] [123] (by decide)).1; have f2 := (st_no [100, 111] [125] (by decide)).1; have f3 := (st_no [100, 111] [99, 97, 115, 101] (by decide)).1; have f4 := (st_yes [100, 111]).1
      go_enter Try.func50, Try.ntmps50
      go_wp2
      go_ret
      exact ⟨rfl, rfl⟩
    · have f0 := (st_no [100, 111, 110, 101] [33] (by decide)).1; have f1 := (st_no [100, 111, 110, 101] [123] (by decide)).1; have f2 := (st_no [100, 111, 110, 101] [125] (by decide)).1; have f3 := (st_no [100, 111, 110, 101] [99, 97, 115, 101] (by decide)).1; have f4 := (st_no [100, 111, 110, 101] [100, 111] (by decide)).1; have f5 := (st_yes [100, 111, 110, 101]).1
      go_enter Try.func50, Try.ntmps50
      go_wp2
      go_ret
      exact ⟨rfl, rfl⟩
    · have f0 := (st_no [101, 108, 105, 102] [33] (by decide)).1; have f1 := (st_no [101, 108, 105, 102] [123] (by decide)).1; have f2 := (st_no [101, 108, 105, 102] [125] (by decide)).1; have f3 := (st_no [101, 108, 105, 102] [99, 97, 115, 101] (by decide)).1; have f4 := (st_no [101, 108, 105, 102] [100, 111] (by decide)).1; have f5 := (st_no [101, 108, 105, 102] [100, 111, 110, 101] (by decide)).1; have f6 := (st_yes [101, 108, 105, 102]).1
      go_enter Try.func50, Try.ntmps50
      go_wp2
      go_ret
      exact ⟨rfl, rfl⟩
    · have f0 := (st_no [101, 108, 115, 101] [33] (by decide)).1; have f1 := (st_no [101, 108, 115, 101] [123] (by decide)).1; have f2 := (st_no [101, 108, 115, 101] [125] (by decide)).1; have f3 := (st_no [101, 108, 115, 101] [99, 97, 115, 101] (by decide)).1; have f4 := (st_no [101, 108, 115, 101] [100, 111] (by decide)).1; have f5 := (st_no [101, 108, 115, 101] [100, 111, 110, 101] (by decide)).1; have f6 := (st_no [101, 108, 115, 101] [101, 108, 105, 102] (by decide)).1; have f7 := (st_yes [101, 108, 115, 101]).1
      go_enter Try.func50, Try.ntmps50
      go_wp2
      go_ret
      exact ⟨rfl, rfl⟩
    · have f0 := (st_no [101, 115, 97, 99] [33] (by decide)).1; have f1 := (st_no [101, 115, 97, 99] [123] (by decide)).1; have f2 := (st_no [101, 115, 97, 99] [125] (by decide)).1; have f3 := (st_no [101, 115, 97, 99] [99, 97, 115, 101] (by decide)).1; have f4 := (st_no [101, 115, 97, 99] [100, 111] (by decide)).1; have f5 := (st_no [101, 115, 97, 99] [100, 111, 110, 101] (by decide)).1; have f6 := (st_no [101, 115, 97, 99] [101, 108, 105, 102] (by decide)).1; have f7 := (st_no [101, 115, 97, 99] [101, 108, 115, 101] (by decide)).1; have f8 := (st_yes [101, 115, 97, 99]).1
      go_enter Try.func50, Try.ntmps50
      go_wp2
      go_ret
      exact ⟨rfl, rfl⟩
    · have f0 := (st_no [102, 105] [33] (by decide)).1; have f1 := (st_no [102, 105] [123] (by decide)).1; have f2 := (st_no [102, 105] [125] (by decide)).1; have f3 := (st_no [102, 105] [99, 97, 115, 101] (by decide)).1; have f4 := (st_no [102, 105] [100, 111] (by decide)).1; have f5 := (st_no [102, 105] [100, 111, 110, 101] (by decide)).1; have f6 := (st_no [102, 105] [101, 108, 105, 102] (by decide)).1; have f7 := (st_no [102, 105] [101, 108, 115, 101] (by decide)).1; have f8 := (st_no [102, 105] [101, 115, 97, 99] (by decide)).1; have f9 := (st_yes [102, 105]).1
      go_enter Try.func50, Try.ntmps50
      go_wp2
      go_ret
      exact ⟨rfl, rfl⟩
    · have f0 := (st_no [102, 111, 114] [33] (by decide)).1; have f1 := (st_no [102, 111, 114] [123] (by decide)).1; have f2 := (st_no [102, 111, 114] [125] (by decide)).1; have f3 := (st_no [102, 111, 114] [99, 97, 115, 101] (by decide)).1; have f4 := (st_no [102, 111, 114] [100, 111] (by decide)).1; have f5 := (st_no [102, 111, 114] [100, 111, 110, 101] (by decide)).1; have f6 := (st_no [102, 111, 114] [101, 108, 105, 102] (by decide)).1; have f7 := (st_no [102, 111, 114] [101, 108, 115, 101] (by decide)).1; have f8 := (st_no [102, 111, 114] [101, 115, 97, 99] (by decide)).1; have f9 := (st_no [102, 111, 114] [102, 105] (by decide)).1; have f10 := (st_yes [102, 111, 114]).1
      go_enter Try.func50, Try.ntmps50
      go_wp2
      go_ret
      exact ⟨rfl, rfl⟩
    · have f0 := (st_no [105, 102] [33] (by decide)).1; have f1 := (st_no [105, 102] [123] (by decide)).1; have f2 := (st_no [105, 102] [125] (by decide)).1; have f3 := (st_no [105, 102] [99, 97, 115, 101] (by decide)).1; have f4 := (st_no [105, 102] [100, 111] (by decide)).1; have f5 := (st_no [105, 102] [100, 111, 110, 101] (by decide)).1; have f6 := (st_no [105, 102] [101, 108, 105, 102] (by decide)).1; have f7 := (st_no [105, 102] [101, 108, 115, 101] (by decide)).1; have f8 := (st_no [105, 102] [101, 115, 97, 99] (by decide)).1; have f9 := (st_no [105, 102] [102, 105] (by decide)).1; have f10 := (st_no [105, 102] [102, 111, 114] (by decide)).1; have f11 := (st_yes [105, 102]).1
      go_enter Try.func50, Try.ntmps50
      go_wp2
      go_ret
      exact ⟨rfl, rfl⟩
    · have f0 := (st_no [105, 110] [33] (by decide)).1; have f1 := (st_no [105, 110] [123] (by decide)).1; have f2 := (st_no [105, 110] [125] (by decide)).1; have f3 := (st_no [105, 110] [99, 97, 115, 101] (by decide)).1; have f4 := (st_no [105, 110] [100, 111] (by decide)).1; have f5 := (st_no [105, 110] [100, 111, 110, 101] (by decide)).1; have f6 := (st_no [105, 110] [101, 108, 105, 102] (by decide)).1; have f7 := (st_no [105, 110] [101, 108, 115, 101] (by decide)).1; have f8 := (st_no [105, 110] [101, 115, 97, 99] (by decide)).1; have f9 := (st_no [105, 110] [102, 105] (by decide)).1; have f10 := (st_no [105, 110] [102, 111, 114] (by decide)).1; have f11 := (st_no [105, 110] [105, 102] (by decide)).1; have f12 := (st_yes [105, 110]).1
      go_enter Try.func50, Try.ntmps50
      go_wp2
      go_ret
      exact ⟨rfl, rfl⟩
    · have f0 := (st_no [116, 104, 101, 110] [33] (by decide)).1; have f1 := (st_no [116, 104, 101, 110] [123] (by decide)).1; have f2 := (st_no [116, 104, 101, 110] [125] (by decide)).1; have f3 := (st_no [116, 104, 101, 110] [99, 97, 115, 101] (by decide)).1; have f4 := (st_no [116, 104, 101, 110] [100, 111] (by decide)).1; have f5 := (st_no [116, 104, 101, 110] [100, 111, 110, 101] (by decide)).1; have f6 := (st_no [116, 104, 101, 110] [101, 108, 105, 102] (by decide)).1; have f7 := (st_no [116, 104, 101, 110] [101, 108, 115, 101] (by decide)).1; have f8 := (st_no [116, 104, 101, 110] [101, 115, 97, 99] (by decide)).1; have f9 := (st_no [116, 104, 101, 110] [102, 105] (by decide)).1; have f10 := (st_no [116, 104, 101, 110] [102, 111, 114] (by decide)).1; have f11 := (st_no [116, 104, 101, 110] [105, 102] (by decide)).1; have f12 := (st_no [116, 104, 101, 110] [105, 110] (by decide)).1; have f13 := (st_yes [116, 104, 101, 110]).1
      go_enter Try.func50, Try.ntmps50
      go_wp2
      go_ret
      exact ⟨rfl, rfl⟩
    · have f0 := (st_no [117, 110, 116, 105, 108] [33] (by decide)).1; have f1 := (st_no [117, 110, 116, 105, 108] [123] (by decide)).1; have f2 := (st_no [117, 110, 116, 105, 108] [125] (by decide)).1; have f3 := (st_no [117, 110, 116, 105, 108] [99, 97, 115, 101] (by decide)).1; have f4 := (st_no [117, 110, 116, 105, 108] [100, 111] (by decide)).1; have f5 := (st_no [117, 110, 116, 105, 108] [100, 111, 110, 101] (by decide)).1; have f6 := (st_no [117, 110, 116, 105, 108] [101, 108, 105, 102] (by decide)).1; have f7 := (st_no [117, 110, 116, 105, 108] [101, 108, 115, 101] (by decide)).1; have f8 := (st_no [117, 110, 116, 105, 108] [101, 115, 97, 99] (by decide)).1; have f9 := (st_no [117, 110, 116, 105, 108] [102, 105] (by decide)).1; have f10 := (st_no [117, 110, 116, 105, 108] [102, 111, 114] (by decide)).1; have f11 := (st_no [117, 110, 116, 105, 108] [105, 102] (by decide)).1; have f12 := (st_no [117, 110, 116, 105, 108] [105, 110] (by decide)).1; have f13 := (st_no [117, 110, 116, 105, 108] [116, 104, 101, 110] (by decide)).1; have f14 := (st_yes [117, 110, 116, 105, 108]).1
      go_enter Try.func50, Try.ntmps50
      go_wp2
      go_ret
      exact ⟨rfl, rfl⟩
    · have f0 := (st_no [119, 104, 105, 108, 101] [33] (by decide)).1; have f1 := (st_no [119, 104, 105, 108, 101] [123] (by decide)).1; have f2 := (st_no [119, 104, 105, 108, 101] [125] (by decide)).1; have f3 := (st_no [119, 104, 105, 108, 101] [99, 97, 115, 101] (by decide)).1; have f4 := (st_no [119, 104, 105, 108, 101] [100, 111] (by decide)).1; have f5 := (st_no [119, 104, 105, 108, 101] [100, 111, 110, 101] (by decide)).1; have f6 := (st_no [119, 104, 105, 108, 101] [101, 108, 105, 102] (by decide)).1; have f7 := (st_no [119, 104, 105, 108, 101] [101, 108, 115, 101] (by decide)).1; have f8 := (st_no [119, 104, 105, 108, 101] [101, 115, 97, 99] (by decide)).1; have f9 := (st_no [119, 104, 105, 108, 101] [102, 105] (by decide)).1; have f10 := (st_no [119, 104, 105, 108, 101] [102, 111, 114] (by decide)).1; have f11 := (st_no [119, 104, 105, 108, 101] [105, 102] (by decide)).1; have f12 := (st_no [119, 104, 105, 108, 101] [105, 110] (by decide)).1; have f13 := (st_no [119, 104, 105, 108, 101] [116, 104, 101, 110] (by decide)).1; have f14 := (st_no [119, 104, 105, 108, 101] [117, 110, 116, 105, 108] (by decide)).1; have f15 := (st_yes [119, 104, 105, 108, 101]).1
      go_enter Try.func50, Try.ntmps50
      go_wp2
      go_ret
      exact ⟨rfl, rfl⟩
  · rw [show isRes t = false by simpa using hr]
    obtain ⟨g0, -⟩ := st_no t [33] (by rintro rfl; exact hr (by decide))
    obtain ⟨g1, -⟩ := st_no t [123] (by rintro rfl; exact hr (by decide))
    obtain ⟨g2, -⟩ := st_no t [125] (by rintro rfl; exact hr (by decide))
    obtain ⟨g3, -⟩ := st_no t [99, 97, 115, 101] (by rintro rfl; exact hr (by decide))
    obtain ⟨g4, -⟩ := st_no t [100, 111] (by rintro rfl; exact hr (by decide))
    obtain ⟨g5, -⟩ := st_no t [100, 111, 110, 101] (by rintro rfl; exact hr (by decide))
    obtain ⟨g6, -⟩ := st_no t [101, 108, 105, 102] (by rintro rfl; exact hr (by decide))
    obtain ⟨g7, -⟩ := st_no t [101, 108, 115, 101] (by rintro rfl; exact hr (by decide))
    obtain ⟨g8, -⟩ := st_no t [101, 115, 97, 99] (by rintro rfl; exact hr (by decide))
    obtain ⟨g9, -⟩ := st_no t [102, 105] (by rintro rfl; exact hr (by decide))
    obtain ⟨g10, -⟩ := st_no t [102, 111, 114] (by rintro rfl; exact hr (by decide))
    obtain ⟨g11, -⟩ := st_no t [105, 102] (by rintro rfl; exact hr (by decide))
    obtain ⟨g12, -⟩ := st_no t [105, 110] (by rintro rfl; exact hr (by decide))
    obtain ⟨g13, -⟩ := st_no t [116, 104, 101, 110] (by rintro rfl; exact hr (by decide))
    obtain ⟨g14, -⟩ := st_no t [117, 110, 116, 105, 108] (by rintro rfl; exact hr (by decide))
    obtain ⟨g15, -⟩ := st_no t [119, 104, 105, 108, 101] (by rintro rfl; exact hr (by decide))
    go_enter Try.func50, Try.ntmps50
    go_wp2
    go_ret
    exact ⟨rfl, rfl⟩
set_option maxHeartbeats 4000000 in
theorem cKind_any (t : Bs) (w : World) :
    Calls Try.prog 38 #[.string (st t)] w fun e w' => e = .returned (.int .i64 (cKind t)) ∧ w' = w := by
  by_cases hr : t ∈ [[123], [40], [105, 102], [119, 104, 105, 108, 101], [117, 110, 116, 105, 108], [102, 111, 114], [99, 97, 115, 101]]
  · simp only [List.mem_cons, List.mem_nil_iff, or_false] at hr
    rcases hr with rfl | rfl | rfl | rfl | rfl | rfl | rfl
    · have f0 := (st_yes [123]).1
      go_enter Try.func38, Try.ntmps38
      go_wp2
      go_ret
      exact ⟨rfl, rfl⟩
    · have f0 := (st_no [40] [123] (by decide)).1; have f1 := (st_yes [40]).1
      go_enter Try.func38, Try.ntmps38
      go_wp2
      go_ret
      exact ⟨rfl, rfl⟩
    · have f0 := (st_no [105, 102] [123] (by decide)).1; have f1 := (st_no [105, 102] [40] (by decide)).1; have f2 := (st_yes [105, 102]).1
      go_enter Try.func38, Try.ntmps38
      go_wp2
      go_ret
      exact ⟨rfl, rfl⟩
    · have f0 := (st_no [119, 104, 105, 108, 101] [123] (by decide)).1; have f1 := (st_no [119, 104, 105, 108, 101] [40] (by decide)).1; have f2 := (st_no [119, 104, 105, 108, 101] [105, 102] (by decide)).1; have f3 := (st_yes [119, 104, 105, 108, 101]).1
      go_enter Try.func38, Try.ntmps38
      go_wp2
      go_ret
      exact ⟨rfl, rfl⟩
    · have f0 := (st_no [117, 110, 116, 105, 108] [123] (by decide)).1; have f1 := (st_no [117, 110, 116, 105, 108] [40] (by decide)).1; have f2 := (st_no [117, 110, 116, 105, 108] [105, 102] (by decide)).1; have f3 := (st_no [117, 110, 116, 105, 108] [119, 104, 105, 108, 101] (by decide)).1; have f4 := (st_yes [117, 110, 116, 105, 108]).1
      go_enter Try.func38, Try.ntmps38
      go_wp2
      go_ret
      exact ⟨rfl, rfl⟩
    · have f0 := (st_no [102, 111, 114] [123] (by decide)).1; have f1 := (st_no [102, 111, 114] [40] (by decide)).1; have f2 := (st_no [102, 111, 114] [105, 102] (by decide)).1; have f3 := (st_no [102, 111, 114] [119, 104, 105, 108, 101] (by decide)).1; have f4 := (st_no [102, 111, 114] [117, 110, 116, 105, 108] (by decide)).1; have f5 := (st_yes [102, 111, 114]).1
      go_enter Try.func38, Try.ntmps38
      go_wp2
      go_ret
      exact ⟨rfl, rfl⟩
    · have f0 := (st_no [99, 97, 115, 101] [123] (by decide)).1; have f1 := (st_no [99, 97, 115, 101] [40] (by decide)).1; have f2 := (st_no [99, 97, 115, 101] [105, 102] (by decide)).1; have f3 := (st_no [99, 97, 115, 101] [119, 104, 105, 108, 101] (by decide)).1; have f4 := (st_no [99, 97, 115, 101] [117, 110, 116, 105, 108] (by decide)).1; have f5 := (st_no [99, 97, 115, 101] [102, 111, 114] (by decide)).1; have f6 := (st_yes [99, 97, 115, 101]).1
      go_enter Try.func38, Try.ntmps38
      go_wp2
      go_ret
      exact ⟨rfl, rfl⟩
  · simp only [List.mem_cons, List.mem_nil_iff, or_false, not_or] at hr
    obtain ⟨h0, h1, h2, h3, h4, h5, h6⟩ := hr
    rw [show cKind t = 0 by unfold cKind; rw [if_neg h0, if_neg h1, if_neg h2, if_neg h3, if_neg h4, if_neg h5, if_neg h6]]
    obtain ⟨g0, -⟩ := st_no t [123] h0
    obtain ⟨g1, -⟩ := st_no t [40] h1
    obtain ⟨g2, -⟩ := st_no t [105, 102] h2
    obtain ⟨g3, -⟩ := st_no t [119, 104, 105, 108, 101] h3
    obtain ⟨g4, -⟩ := st_no t [117, 110, 116, 105, 108] h4
    obtain ⟨g5, -⟩ := st_no t [102, 111, 114] h5
    obtain ⟨g6, -⟩ := st_no t [99, 97, 115, 101] h6
    go_enter Try.func38, Try.ntmps38
    go_wp2
    go_ret
    exact ⟨rfl, rfl⟩
set_option maxHeartbeats 4000000 in
theorem bRedir_any (k : Int) (t : Bs) (a : Nat) (w : World) :
    Calls Try.prog 39 #[.agg #[.int .i64 k, .string (st t), .int .i64 a]] w fun e w' => e = .returned (.bool (bRedir ⟨k, t, a⟩)) ∧ Fr (fun _ => False) w w' := by
  have HF := Lib.hid ((Fr.refl (fun _ => False) w).alloc (.cells #[.int .i64 k, .string (st t), .int .i64 a] 40))
  by_cases hr : rdTexts.contains t = true
  · rw [show bRedir ⟨k, t, a⟩ = true by unfold bRedir; dsimp only; rw [hr]; rfl]
    have hm : t ∈ rdTexts := List.contains_iff_mem.1 hr
    unfold rdTexts at hm
    simp only [List.mem_cons, List.mem_nil_iff, or_false] at hm
    rcases hm with rfl | rfl | rfl | rfl | rfl | rfl | rfl
    · have f0 := (st_yes [60]).1
      go_enter Try.func39, Try.ntmps39
      go_wp2
      go_ret
      exact ⟨rfl, HF.out⟩
    · have f0 := (st_no [62] [60] (by decide)).1; have f1 := (st_yes [62]).1
      go_enter Try.func39, Try.ntmps39
      go_wp2
      go_ret
      exact ⟨rfl, HF.out⟩
    · have f0 := (st_no [62, 62] [60] (by decide)).1; have f1 := (st_no [62, 62] [62] (by decide)).1; have f2 := (st_yes [62, 62]).1
      go_enter Try.func39, Try.ntmps39
      go_wp2
      go_ret
      exact ⟨rfl, HF.out⟩
    · have f0 := (st_no [60, 38] [60] (by decide)).1; have f1 := (st_no [60, 38] [62] (by decide)).1; have f2 := (st_no [60, 38] [62, 62] (by decide)).1; have f3 := (st_yes [60, 38]).1
      go_enter Try.func39, Try.ntmps39
      go_wp2
      go_ret
      exact ⟨rfl, HF.out⟩
    · have f0 := (st_no [62, 38] [60] (by decide)).1; have f1 := (st_no [62, 38] [62] (by decide)).1; have f2 := (st_no [62, 38] [62, 62] (by decide)).1; have f3 := (st_no [62, 38] [60, 38] (by decide)).1; have f4 := (st_yes [62, 38]).1
      go_enter Try.func39, Try.ntmps39
      go_wp2
      go_ret
      exact ⟨rfl, HF.out⟩
    · have f0 := (st_no [60, 62] [60] (by decide)).1; have f1 := (st_no [60, 62] [62] (by decide)).1; have f2 := (st_no [60, 62] [62, 62] (by decide)).1; have f3 := (st_no [60, 62] [60, 38] (by decide)).1; have f4 := (st_no [60, 62] [62, 38] (by decide)).1; have f5 := (st_yes [60, 62]).1
      go_enter Try.func39, Try.ntmps39
      go_wp2
      go_ret
      exact ⟨rfl, HF.out⟩
    · have f0 := (st_no [62, 124] [60] (by decide)).1; have f1 := (st_no [62, 124] [62] (by decide)).1; have f2 := (st_no [62, 124] [62, 62] (by decide)).1; have f3 := (st_no [62, 124] [60, 38] (by decide)).1; have f4 := (st_no [62, 124] [62, 38] (by decide)).1; have f5 := (st_no [62, 124] [60, 62] (by decide)).1; have f6 := (st_yes [62, 124]).1
      go_enter Try.func39, Try.ntmps39
      go_wp2
      go_ret
      exact ⟨rfl, HF.out⟩
  · rw [show bRedir ⟨k, t, a⟩ = (k == 3) by unfold bRedir; dsimp only; rw [show rdTexts.contains t = false by simpa using hr]; rfl]
    obtain ⟨g0, -⟩ := st_no t [60] (by rintro rfl; exact hr (by decide))
    obtain ⟨g1, -⟩ := st_no t [62] (by rintro rfl; exact hr (by decide))
    obtain ⟨g2, -⟩ := st_no t [62, 62] (by rintro rfl; exact hr (by decide))
    obtain ⟨g3, -⟩ := st_no t [60, 38] (by rintro rfl; exact hr (by decide))
    obtain ⟨g4, -⟩ := st_no t [62, 38] (by rintro rfl; exact hr (by decide))
    obtain ⟨g5, -⟩ := st_no t [60, 62] (by rintro rfl; exact hr (by decide))
    obtain ⟨g6, -⟩ := st_no t [62, 124] (by rintro rfl; exact hr (by decide))
    go_enter Try.func39, Try.ntmps39
    go_wp2
    go_ret
    exact ⟨rfl, HF.out⟩
set_option maxHeartbeats 4000000 in
theorem bFirst_any (k : Int) (t : Bs) (a : Nat) (w : World) :
    Calls Try.prog 40 #[.agg #[.int .i64 k, .string (st t), .int .i64 a]] w fun e w' => e = .returned (.bool (bFirst ⟨k, t, a⟩)) ∧ Fr (fun _ => False) w w' := by
  have HF := Lib.hid ((Fr.refl (fun _ => False) w).alloc (.cells #[.int .i64 k, .string (st t), .int .i64 a] 40))
  have HR := Lib.hid (fun w => isRes_any t w)
  have HV := Lib.hid (show bFirst ⟨k, t, a⟩ = (k == 1 && (!isRes t || t == [105, 110])) from rfl)
  have HI : (((st t).toList == [105, 110]) : Bool) = (t == [105, 110]) := by rw [st_toList]
  generalize (t == [105, 110]) = b at *
  generalize isRes t = r at *
  by_cases hk : k = 1
  · subst hk
    cases r <;> cases b <;>
    (go_enter Try.func40, Try.ntmps40
     go_wp2_with (go_at_call 50; (with_reducible refine (HR.out _).mono ?_); rintro e w1 ⟨rfl, rfl⟩)
     go_ret
     exact ⟨ret_bool (by rw [HV.out]; rfl), HF.out⟩)
  · have hk' : (k == 1) = false := by rw [beq_eq_false_iff_ne]; exact hk
    go_enter Try.func40, Try.ntmps40
    go_wp2
    go_ret
    exact ⟨ret_bool (by rw [HV.out, hk']; rfl), HF.out⟩
/-- the length of the name from a place on. -/
def nsRelP (t : ByteArray) (N : Nat) (kv : Value) : Prop := ∃ k : Nat, kv = .int .i64 k ∧ k ≤ t.size ∧ k + nmL k (t.data.toList.drop k) = N
theorem nameSize_any (t : ByteArray) (ht : t.size ≤ maxLen) (w : World) :
    Calls Try.prog 81 #[.string t] w fun e w' => e = .returned (.int .i64 (nmS t.data.toList)) ∧ w' = w := by
  have ht' := ht
  unfold maxLen at ht'
  obtain ⟨N, hN⟩ : ∃ N, nmS t.data.toList = N := ⟨_, rfl⟩
  rw [hN]
  have HL := Lib.hid (fun c w => isLetter_any c w)
  have HD := Lib.hid (fun c w => pIsDigit_any c w)
  go_enter Try.func81, Try.ntmps81
  go_wp2
  go_loopw [3] (fun kv wr => nsRelP t N kv ∧ wr = w) (fun kv _ => t.size - (intOf kv).toNat)
  case atStart => exact ⟨⟨0, rfl, Nat.zero_le _, by rw [← hN]; unfold nmS; rw [List.drop_zero]; omega⟩, rfl⟩
  case round =>
    obtain ⟨⟨k, rfl, hk, hs⟩, rfl⟩ := hrel
    by_cases hlt : k < t.size
    · rw [at_byte hlt, nmL] at hs
      have HS := Lib.hid hs
      clear hs
      obtain ⟨x, hx⟩ : ∃ x, pLet t[k] = x := ⟨_, rfl⟩
      obtain ⟨y, hy⟩ : ∃ y, isDig t[k] = y := ⟨_, rfl⟩
      have HX := Lib.hid hx
      have HY := Lib.hid hy
      have HLX := Lib.hid (fun w => by have := isLetter_any t[k] w; rw [hx] at this; exact this)
      have HDY := Lib.hid (fun w => by have := pIsDigit_any t[k] w; rw [hy] at this; exact this)
      clear hx hy
      by_cases h0 : k = 0
      · subst h0
        cases x
        · go_wp2_with (first | (go_at_call 82; (with_reducible refine (HLX.out _).mono ?_); rintro e w1 ⟨rfl, rfl⟩))
          go_ret
          have := HS.out
          rw [HX.out] at this
          simp at this
          exact ⟨ret_int (by omega), rfl⟩
        · go_wp2_with (first | (go_at_call 82; (with_reducible refine (HLX.out _).mono ?_); rintro e w1 ⟨rfl, rfl⟩))
          go_roundw
          case rel =>
            have := HS.out
            rw [HX.out] at this
            simp at this
            exact ⟨⟨1, by go_num, by omega, by rw [List.drop_one]; omega⟩, by first | rfl | trivial⟩
          case measure => simp [intOf]; omega
      · cases x
        · cases y
          · go_wp2_with (first | (go_at_call 82; (with_reducible refine (HLX.out _).mono ?_); rintro e w1 ⟨rfl, rfl⟩) | (go_at_call 83; (with_reducible refine (HDY.out _).mono ?_); rintro e w1 ⟨rfl, rfl⟩))
            go_ret
            have := HS.out
            rw [HX.out, HY.out] at this
            simp at this
            exact ⟨ret_int (by omega), rfl⟩
          · go_wp2_with (first | (go_at_call 82; (with_reducible refine (HLX.out _).mono ?_); rintro e w1 ⟨rfl, rfl⟩) | (go_at_call 83; (with_reducible refine (HDY.out _).mono ?_); rintro e w1 ⟨rfl, rfl⟩))
            go_roundw
            case rel =>
              have := HS.out
              rw [HX.out, HY.out, if_pos (by rw [Bool.false_or, Bool.and_true, decide_eq_true_eq]; omega)] at this
              exact ⟨⟨k + 1, by go_num, by omega, by omega⟩, by first | rfl | trivial⟩
            case measure => simp [intOf]; omega
        · go_wp2_with (first | (go_at_call 82; (with_reducible refine (HLX.out _).mono ?_); rintro e w1 ⟨rfl, rfl⟩) | (go_at_call 83; (with_reducible refine (HDY.out _).mono ?_); rintro e w1 ⟨rfl, rfl⟩))
          go_roundw
          case rel =>
            have := HS.out
            rw [HX.out, if_pos (by rfl)] at this
            exact ⟨⟨k + 1, by go_num, by omega, by omega⟩, by first | rfl | trivial⟩
          case measure => simp [intOf]; omega
    · obtain rfl : k = t.size := by omega
      rw [List.drop_eq_nil_of_le (by rw [size_len]; exact Nat.le_refl _), nmL] at hs
      go_wp2
      go_ret
      exact ⟨ret_int (by omega), rfl⟩
theorem isName_any (t : Bs) (ht : t.length ≤ 4096) (w : World) :
    Calls Try.prog 74 #[.string (st t)] w fun e w' => e = .returned (.bool (isNm t)) ∧ w' = w := by
  have HZ : (st t).size = t.length := st_size t
  have HS := Lib.hid (fun w => by have := nameSize_any (st t) (by rw [st_size]; unfold maxLen; omega) w; rw [st_data] at this; exact this)
  have HV := Lib.hid (show isNm t = (!(t == []) && decide (nmS t = t.length)) from rfl)
  generalize nmS t = k at *
  by_cases h0 : t = []
  · subst h0
    have g : (st []).toList = [] := st_toList []
    go_enter Try.func74, Try.ntmps74
    go_wp2
    go_ret
    exact ⟨ret_bool (by rw [HV.out]; rfl), rfl⟩
  · obtain ⟨g1, g2⟩ := st_no t [] h0
    have g3 : (t == []) = false := by rw [beq_eq_false_iff_ne]; exact h0
    go_enter Try.func74, Try.ntmps74
    go_wp2_with (go_at_call 81; (with_reducible refine (HS.out _).mono ?_); rintro e w1 ⟨rfl, rfl⟩)
    go_ret
    refine ⟨ret_bool ?_, rfl⟩
    rw [HV.out, g3, Bool.eq_iff_iff]
    simp
    omega
theorem isSet_any (k : Int) (t : Bs) (a : Nat) (ht : t.length ≤ 4096) (w : World) :
    Calls Try.prog 77 #[.agg #[.int .i64 k, .string (st t), .int .i64 a]] w fun e w' => e = .returned (.bool (isSetB t)) ∧ Fr (fun _ => False) w w' := by
  have HZ : (st t).size = t.length := st_size t
  have HF := Lib.hid ((Fr.refl (fun _ => False) w).alloc (.cells #[.int .i64 k, .string (st t), .int .i64 a] 40))
  have HS := Lib.hid (fun w => by have := nameSize_any (st t) (by rw [st_size]; unfold maxLen; omega) w; rw [st_data] at this; exact this)
  have HV := Lib.hid (show isSetB t = (decide (0 < nmS t) && (decide (nmS t < t.length) && decide (t.getD (nmS t) 0 = 61))) from rfl)
  generalize nmS t = k at *
  by_cases h0 : 0 < k
  · by_cases h1 : k < t.length
    · have hi : k < (st t).size := by rw [HZ]; exact h1
      have hx : t.getD k 0 = (st t)[k] := by
        rw [List.getD_eq_getElem?_getD, List.getElem?_eq_getElem h1]
        simp [st]
        rfl
      rw [hx] at HV
      by_cases h2 : (st t)[k] = 61
      · have h3 := u8_true _ _ h2
        go_enter Try.func77, Try.ntmps77
        go_wp2_with (go_at_call 81; (with_reducible refine (HS.out _).mono ?_); rintro e w1 ⟨rfl, rfl⟩)
        go_ret
        refine ⟨ret_bool ?_, HF.out⟩
        rw [HV.out, h2]
        simp [h0, h1]
      · have h3 := u8_false _ _ h2
        go_enter Try.func77, Try.ntmps77
        go_wp2_with (go_at_call 81; (with_reducible refine (HS.out _).mono ?_); rintro e w1 ⟨rfl, rfl⟩)
        go_ret
        refine ⟨ret_bool ?_, HF.out⟩
        rw [HV.out]
        simp [h2]
        intro e
        exact h2 (UInt8.toNat_inj.1 (show (st t)[k].toNat = 61 by omega))
    · go_enter Try.func77, Try.ntmps77
      go_wp2_with (go_at_call 81; (with_reducible refine (HS.out _).mono ?_); rintro e w1 ⟨rfl, rfl⟩)
      go_ret
      refine ⟨ret_bool ?_, HF.out⟩
      rw [HV.out]
      simp
      omega
  · obtain rfl : k = 0 := by omega
    go_enter Try.func77, Try.ntmps77
    go_wp2_with (go_at_call 81; (with_reducible refine (HS.out _).mono ?_); rintro e w1 ⟨rfl, rfl⟩)
    go_ret
    refine ⟨ret_bool ?_, HF.out⟩
    rw [HV.out]
    simp
end Go.Proofs.Ytoahgblgchmclaa
