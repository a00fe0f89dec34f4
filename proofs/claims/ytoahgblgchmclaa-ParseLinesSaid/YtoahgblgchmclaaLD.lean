/- Contracts: isOf, endsWord, isDigit, signSize. -/
import Derived.Test.YtoahgblgchmclaaLB
namespace Go.Proofs.Ytoahgblgchmclaa
open Go.RowKit
set_option linter.unusedVariables false
set_option linter.unusedSimpArgs false
theorem index_ge (l : Bs) (c : UInt8) : decide (Lib.indexByte l c ≥ 0) = l.contains c := by
  have h : ∀ l : Bs, -1 ≤ Lib.indexByte l c ∧ ((0 ≤ Lib.indexByte l c) ↔ l.contains c = true) := by
    intro l
    induction l with
    | nil => simp [Lib.indexByte]
    | cons b l ih =>
      rw [Lib.indexByte]
      by_cases hb : b = c
      · subst hb; simp
      · have h1 : (b == c) = false := by simpa using hb
        have h2 : (c == b) = false := by simpa using Ne.symm hb
        rw [h1, List.contains_cons, h2]
        simp only [Bool.false_eq_true, if_false, Bool.false_or]
        split
        · rename_i h3
          have h4 : Lib.indexByte l c = -1 := by simpa using h3
          rw [h4] at ih
          exact ⟨by omega, ih.2⟩
        · rename_i h3
          have h4 : ¬ Lib.indexByte l c = -1 := by simpa using h3
          refine ⟨by omega, ?_⟩
          rw [← ih.2]; omega
  rw [Bool.eq_iff_iff, decide_eq_true_eq, ← (h l).2]
theorem isOf_any (x : ByteArray) (c : UInt8) (w : World) :
    Calls Try.prog 30 #[.string x, .int .u8 c.toNat] w fun e w' => e = .returned (.bool (x.data.toList.contains c)) ∧ w' = w := by
  have HC := Lib.hid (fun w => Try.strings_IndexByte x (c.toNat : Int) w)
  have HI := Lib.hid (index_ge x.data.toList c)
  go_enter Try.func30, Try.ntmps30
  go_wp2_with (go_at_call 44; (with_reducible refine (HC.out _).mono ?_); rintro e w' ⟨rfl, rfl⟩)
  go_ret
  refine ⟨ret_bool ?_, rfl⟩
  rw [← HI.out]
def blankB (c : UInt8) : Bool := c = 32 || c = 9
def signB (c : UInt8) : Bool := c = 10 || c = 124 || c = 38 || c = 59 || c = 60 || c = 62 || c = 40 || c = 41
theorem isBlank_any (c : UInt8) (w : World) :
    Calls Try.prog 30 #[.string ⟨#[32, 9]⟩, .int .u8 c.toNat] w fun e w' => e = .returned (.bool (blankB c)) ∧ w' = w := by
  refine (isOf_any _ c w).mono ?_
  rintro e w' ⟨rfl, rfl⟩
  refine ⟨ret_bool ?_, rfl⟩
  rw [Bool.eq_iff_iff]
  simp [blankB]
theorem isSign_any (c : UInt8) (w : World) :
    Calls Try.prog 30 #[.string ⟨#[10, 124, 38, 59, 60, 62, 40, 41]⟩, .int .u8 c.toNat] w fun e w' => e = .returned (.bool (signB c)) ∧ w' = w := by
  refine (isOf_any _ c w).mono ?_
  rintro e w' ⟨rfl, rfl⟩
  refine ⟨ret_bool ?_, rfl⟩
  rw [Bool.eq_iff_iff]
  simp [signB, or_assoc]
theorem stop_parts (c : UInt8) : stopB c = (blankB c || signB c) := by
  unfold stopB blankB signB
  simp [Bool.or_assoc]
theorem endsWord_any (c : UInt8) (w : World) :
    Calls Try.prog 46 #[.int .u8 c.toNat] w fun e w' => e = .returned (.bool (stopB c)) ∧ w' = w := by
  have HB := Lib.hid (fun w => isBlank_any c w)
  have HS := Lib.hid (fun w => isSign_any c w)
  have HP := stop_parts c
  generalize blankB c = x at *
  generalize signB c = y at *
  generalize stopB c = z at *
  subst HP
  cases x <;>
  (go_enter Try.func46, Try.ntmps46
   go_wp2_with (first | (go_at_call 30; (with_reducible refine (HB.out _).mono ?_); rintro e w' ⟨rfl, rfl⟩) | (go_at_call 30; (with_reducible refine (HS.out _).mono ?_); rintro e w' ⟨rfl, rfl⟩))
   go_ret
   exact ⟨ret_bool (by simp), rfl⟩)
/-- a text of one digit. -/
def dig1 : Bs → Bool
  | [c] => isDig c
  | _ => false
theorem isDigit_any (s : ByteArray) (hs : s.size ≤ maxLen) (w : World) :
    Calls Try.prog 36 #[.string s] w fun e w' => e = .returned (.bool (dig1 s.data.toList)) ∧ w' = w := by
  unfold maxLen at hs
  by_cases h1 : s.size = 1
  · obtain ⟨r, hr⟩ := head_byte (s := s) (by omega)
    have hl := size_len s
    have hn : r = [] := by
      rw [hr] at hl
      simp only [List.length_cons] at hl
      exact List.length_eq_zero_iff.1 (by omega)
    rw [hr, hn]
    have HD := Lib.hid (show dig1 [s[0]] = (decide (48 ≤ s[0].toNat) && decide (s[0].toNat ≤ 57)) from rfl)
    clear hr hn hl
    go_enter Try.func36, Try.ntmps36
    go_wp2
    all_goals
      go_ret
      refine ⟨ret_bool ?_, rfl⟩
      rw [HD.out, Bool.eq_iff_iff]
      simp only [Bool.and_eq_true, decide_eq_true_eq, Bool.false_eq_true, true_iff, false_iff]
      try omega
  · have HD := Lib.hid (show dig1 s.data.toList = false by
      have hl := size_len s
      match hs : s.data.toList with
      | [] => rfl
      | [c] => rw [hs] at hl; simp at hl; omega
      | c :: d :: r => rfl)
    go_enter Try.func36, Try.ntmps36
    go_wp2
    go_ret
    exact ⟨ret_bool HD.out.symm, rfl⟩
/-- the length of the sign, by tests on two bytes and one. -/
theorem sg_two (c d : UInt8) (r : Bs) : sg (c :: d :: r) = if (decide ([c, d] = [38, 38]) || (decide ([c, d] = [124, 124]) || (decide ([c, d] = [59, 59]) || (decide ([c, d] = [62, 62]) || (decide ([c, d] = [60, 38]) || (decide ([c, d] = [62, 38]) || (decide ([c, d] = [60, 62]) || decide ([c, d] = [62, 124])))))))) = true then 2 else if signB c = true then 1 else 0 := by
  unfold sg signB
  simp [or_assoc]
theorem sg_one (c : UInt8) : sg [c] = if signB c = true then 1 else 0 := by
  unfold sg signB
  simp [or_assoc]
theorem toL (l : Bs) : (⟨l.toArray⟩ : ByteArray).toList = l := by rw [ByteArray.toList_eq]
set_option maxHeartbeats 4000000 in
theorem signSize_any (s : ByteArray) (h0 : 0 < s.size) (hs : s.size ≤ maxLen) (w : World) :
    Calls Try.prog 33 #[.string s] w fun e w' => e = .returned (.int .i64 (sg s.data.toList)) ∧ w' = w := by
  unfold maxLen at hs
  have HS := fun w => isSign_any s[0] w
  by_cases h1 : 1 < s.size
  · have hl : s.data.toList = s[0] :: s[1] :: s.data.toList.drop 2 := by
      have h1' := at_byte (s := s) (k := 0) h0
      have h2' := at_byte (s := s) (k := 1) h1
      rw [List.drop_zero, Nat.zero_add, h2'] at h1'
      exact h1'
    have hx : (s.extract 0 2).toList = [s[0], s[1]] := by
      rw [ByteArray.toList_eq, extract_mid, hl]; rfl
    have HG := sg_two s[0] s[1] (s.data.toList.drop 2)
    rw [← hl] at HG
    have g : ∀ p : Bs, ((s.extract 0 2).toList == p) = decide ([s[0], s[1]] = p) := by
      intro p; rw [hx, Bool.eq_iff_iff]; simp
    have g1 := g [38, 38]
    have g2 := g [124, 124]
    have g3 := g [59, 59]
    have g4 := g [62, 62]
    have g5 := g [60, 38]
    have g6 := g [62, 38]
    have g7 := g [60, 62]
    have g8 := g [62, 124]
    clear g hx hl
    generalize decide ([s[0], s[1]] = [38, 38]) = e1 at *
    generalize decide ([s[0], s[1]] = [124, 124]) = e2 at *
    generalize decide ([s[0], s[1]] = [59, 59]) = e3 at *
    generalize decide ([s[0], s[1]] = [62, 62]) = e4 at *
    generalize decide ([s[0], s[1]] = [60, 38]) = e5 at *
    generalize decide ([s[0], s[1]] = [62, 38]) = e6 at *
    generalize decide ([s[0], s[1]] = [60, 62]) = e7 at *
    generalize decide ([s[0], s[1]] = [62, 124]) = e8 at *
    generalize signB s[0] = b at *
    have HG := Lib.hid HG
    have HS := Lib.hid HS
    cases e1
    case' true =>
      go_enter Try.func33, Try.ntmps33
      go_wp2_with (go_at_call 30; (with_reducible refine (HS.out _).mono ?_); rintro e w' ⟨rfl, rfl⟩)
      go_ret
      exact ⟨ret_int (by rw [HG.out]; rfl), rfl⟩
    case' false =>
      cases e2
      case' true =>
        go_enter Try.func33, Try.ntmps33
        go_wp2_with (go_at_call 30; (with_reducible refine (HS.out _).mono ?_); rintro e w' ⟨rfl, rfl⟩)
        go_ret
        exact ⟨ret_int (by rw [HG.out]; rfl), rfl⟩
      case' false =>
        cases e3
        case' true =>
          go_enter Try.func33, Try.ntmps33
          go_wp2_with (go_at_call 30; (with_reducible refine (HS.out _).mono ?_); rintro e w' ⟨rfl, rfl⟩)
          go_ret
          exact ⟨ret_int (by rw [HG.out]; rfl), rfl⟩
        case' false =>
          cases e4
          case' true =>
            go_enter Try.func33, Try.ntmps33
            go_wp2_with (go_at_call 30; (with_reducible refine (HS.out _).mono ?_); rintro e w' ⟨rfl, rfl⟩)
            go_ret
            exact ⟨ret_int (by rw [HG.out]; rfl), rfl⟩
          case' false =>
            cases e5
            case' true =>
              go_enter Try.func33, Try.ntmps33
              go_wp2_with (go_at_call 30; (with_reducible refine (HS.out _).mono ?_); rintro e w' ⟨rfl, rfl⟩)
              go_ret
              exact ⟨ret_int (by rw [HG.out]; rfl), rfl⟩
            case' false =>
              cases e6
              case' true =>
                go_enter Try.func33, Try.ntmps33
                go_wp2_with (go_at_call 30; (with_reducible refine (HS.out _).mono ?_); rintro e w' ⟨rfl, rfl⟩)
                go_ret
                exact ⟨ret_int (by rw [HG.out]; rfl), rfl⟩
              case' false =>
                cases e7
                case' true =>
                  go_enter Try.func33, Try.ntmps33
                  go_wp2_with (go_at_call 30; (with_reducible refine (HS.out _).mono ?_); rintro e w' ⟨rfl, rfl⟩)
                  go_ret
                  exact ⟨ret_int (by rw [HG.out]; rfl), rfl⟩
                case' false =>
                  cases e8
                  case' true =>
                    go_enter Try.func33, Try.ntmps33
                    go_wp2_with (go_at_call 30; (with_reducible refine (HS.out _).mono ?_); rintro e w' ⟨rfl, rfl⟩)
                    go_ret
                    exact ⟨ret_int (by rw [HG.out]; rfl), rfl⟩
                  case' false =>
                    cases b
                    case' false =>
                      go_enter Try.func33, Try.ntmps33
                      go_wp2_with (go_at_call 30; (with_reducible refine (HS.out _).mono ?_); rintro e w' ⟨rfl, rfl⟩)
                      go_ret
                      exact ⟨ret_int (by rw [HG.out]; rfl), rfl⟩
                    case' true =>
                      go_enter Try.func33, Try.ntmps33
                      go_wp2_with (go_at_call 30; (with_reducible refine (HS.out _).mono ?_); rintro e w' ⟨rfl, rfl⟩)
                      go_ret
                      exact ⟨ret_int (by rw [HG.out]; rfl), rfl⟩
  · have hl : s.data.toList = [s[0]] := by
      have h1' := at_byte (s := s) (k := 0) h0
      rw [List.drop_zero] at h1'
      rw [h1', List.drop_eq_nil_of_le (by rw [size_len]; omega)]
    have HG := sg_one s[0]
    rw [← hl] at HG
    clear hl
    generalize signB s[0] = b at *
    have HG := Lib.hid HG
    have HS := Lib.hid HS
    cases b <;>
    (go_enter Try.func33, Try.ntmps33
     go_wp2_with (go_at_call 30; (with_reducible refine (HS.out _).mono ?_); rintro e w' ⟨rfl, rfl⟩)
     go_ret
     exact ⟨ret_int (by rw [HG.out]; rfl), rfl⟩)
end Go.Proofs.Ytoahgblgchmclaa
