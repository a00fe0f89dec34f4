/- Contracts: partOf, isOf, endsWord, isDigit, signSize. -/
import Derived.Test.YtoahgblgchmclaaLB
namespace Go.Proofs.Ytoahgblgchmclaa
open Go.RowKit
set_option linter.unusedVariables false
set_option linter.unusedSimpArgs false
def pre (p l : Bs) : Bool := p.isPrefixOf l
def pick (q b1 b2 b3 b4 b5 b6 b7 : Bool) : Option Kd :=
  if b1 then some .esc else if b2 && !q then some .sq else if b3 && !q then some .dq else if b4 then some .ar else if b5 then some .su else if b6 then some .pa else if b7 then some .gr else none
theorem kd_pre (q : Bool) (l : Bs) : kd q l = pick q (pre [92] l) (pre [39] l) (pre [34] l) (pre [36, 40, 40] l) (pre [36, 40] l) (pre [36, 123] l) (pre [96] l) := by
  cases l with
  | nil => rfl
  | cons c r =>
    unfold kd pick pre
    by_cases h1 : c = 92
    · subst h1; simp [List.isPrefixOf]
    by_cases h2 : c = 39
    · subst h2; cases q <;> simp [List.isPrefixOf]
    by_cases h3 : c = 34
    · subst h3; cases q <;> simp [List.isPrefixOf]
    by_cases h5 : c = 36
    · subst h5
      cases r with
      | nil => simp [List.isPrefixOf]
      | cons d r =>
        by_cases h6 : d = 40
        · subst h6
          cases r with
          | nil => simp [List.isPrefixOf]
          | cons e r =>
            by_cases h7 : e = 40
            · subst h7; simp [List.isPrefixOf]
            · simp [List.isPrefixOf, h7, Ne.symm h7]
        · by_cases h7 : d = 123
          · subst h7; simp [List.isPrefixOf]
          · simp [List.isPrefixOf, h6, h7, Ne.symm h6, Ne.symm h7]
    by_cases h8 : c = 96
    · subst h8; simp [List.isPrefixOf]
    · simp [List.isPrefixOf, h1, h2, h3, h5, h8, Ne.symm h1, Ne.symm h2, Ne.symm h3, Ne.symm h5, Ne.symm h8]
theorem pre_call (l p : Bs) (b : Bool) (h : pre p l = b) (w : World) :
    Calls Try.prog 45 #[.string (st l), .string (st p)] w fun e w' => e = .returned (.bool b) ∧ w' = w := by
  refine (Try.strings_HasPrefix _ _ w).mono ?_
  rintro e w' ⟨rfl, rfl⟩
  refine ⟨ret_bool ?_, rfl⟩
  rw [st_data, st_data, ← h]; rfl
set_option maxHeartbeats 8000000 in
theorem partOf_gen (l : Bs) (q b1 b2 b3 b4 b5 b6 b7 : Bool)
    (C1 : ∀ w, Calls Try.prog 45 #[.string (st l), .string ⟨#[92]⟩] w fun e w' => e = .returned (.bool b1) ∧ w' = w)
    (C2 : ∀ w, Calls Try.prog 45 #[.string (st l), .string ⟨#[39]⟩] w fun e w' => e = .returned (.bool b2) ∧ w' = w)
    (C3 : ∀ w, Calls Try.prog 45 #[.string (st l), .string ⟨#[34]⟩] w fun e w' => e = .returned (.bool b3) ∧ w' = w)
    (C4 : ∀ w, Calls Try.prog 45 #[.string (st l), .string ⟨#[36, 40, 40]⟩] w fun e w' => e = .returned (.bool b4) ∧ w' = w)
    (C5 : ∀ w, Calls Try.prog 45 #[.string (st l), .string ⟨#[36, 40]⟩] w fun e w' => e = .returned (.bool b5) ∧ w' = w)
    (C6 : ∀ w, Calls Try.prog 45 #[.string (st l), .string ⟨#[36, 123]⟩] w fun e w' => e = .returned (.bool b6) ∧ w' = w)
    (C7 : ∀ w, Calls Try.prog 45 #[.string (st l), .string ⟨#[96]⟩] w fun e w' => e = .returned (.bool b7) ∧ w' = w)
    (w : World) : Calls Try.prog 47 #[.string (st l), .bool q] w fun e w' => e = .returned (.string (st (kb (pick q b1 b2 b3 b4 b5 b6 b7)))) ∧ w' = w := by
  have C1 := Lib.hid C1
  have C2 := Lib.hid C2
  have C3 := Lib.hid C3
  have C4 := Lib.hid C4
  have C5 := Lib.hid C5
  have C6 := Lib.hid C6
  have C7 := Lib.hid C7
  generalize st l = x at *
  cases q
  case' false =>
    cases b1
    case' false =>
      cases b2
      case' false =>
        cases b3
        case' false =>
          cases b4
          case' false =>
            cases b5
            case' false =>
              cases b6
              case' false =>
                cases b7
                case' false =>
                  go_enter Try.func47, Try.ntmps47
                  go_wp2_with (first | (go_at_call 45; (with_reducible refine (C1.out _).mono ?_); rintro e w' ⟨rfl, rfl⟩) | (go_at_call 45; (with_reducible refine (C2.out _).mono ?_); rintro e w' ⟨rfl, rfl⟩) | (go_at_call 45; (with_reducible refine (C3.out _).mono ?_); rintro e w' ⟨rfl, rfl⟩) | (go_at_call 45; (with_reducible refine (C4.out _).mono ?_); rintro e w' ⟨rfl, rfl⟩) | (go_at_call 45; (with_reducible refine (C5.out _).mono ?_); rintro e w' ⟨rfl, rfl⟩) | (go_at_call 45; (with_reducible refine (C6.out _).mono ?_); rintro e w' ⟨rfl, rfl⟩) | (go_at_call 45; (with_reducible refine (C7.out _).mono ?_); rintro e w' ⟨rfl, rfl⟩))
                  go_ret
                  exact ⟨rfl, rfl⟩
                case' true =>
                  go_enter Try.func47, Try.ntmps47
                  go_wp2_with (first | (go_at_call 45; (with_reducible refine (C1.out _).mono ?_); rintro e w' ⟨rfl, rfl⟩) | (go_at_call 45; (with_reducible refine (C2.out _).mono ?_); rintro e w' ⟨rfl, rfl⟩) | (go_at_call 45; (with_reducible refine (C3.out _).mono ?_); rintro e w' ⟨rfl, rfl⟩) | (go_at_call 45; (with_reducible refine (C4.out _).mono ?_); rintro e w' ⟨rfl, rfl⟩) | (go_at_call 45; (with_reducible refine (C5.out _).mono ?_); rintro e w' ⟨rfl, rfl⟩) | (go_at_call 45; (with_reducible refine (C6.out _).mono ?_); rintro e w' ⟨rfl, rfl⟩) | (go_at_call 45; (with_reducible refine (C7.out _).mono ?_); rintro e w' ⟨rfl, rfl⟩))
                  go_ret
                  exact ⟨rfl, rfl⟩
              case' true =>
                go_enter Try.func47, Try.ntmps47
                go_wp2_with (first | (go_at_call 45; (with_reducible refine (C1.out _).mono ?_); rintro e w' ⟨rfl, rfl⟩) | (go_at_call 45; (with_reducible refine (C2.out _).mono ?_); rintro e w' ⟨rfl, rfl⟩) | (go_at_call 45; (with_reducible refine (C3.out _).mono ?_); rintro e w' ⟨rfl, rfl⟩) | (go_at_call 45; (with_reducible refine (C4.out _).mono ?_); rintro e w' ⟨rfl, rfl⟩) | (go_at_call 45; (with_reducible refine (C5.out _).mono ?_); rintro e w' ⟨rfl, rfl⟩) | (go_at_call 45; (with_reducible refine (C6.out _).mono ?_); rintro e w' ⟨rfl, rfl⟩) | (go_at_call 45; (with_reducible refine (C7.out _).mono ?_); rintro e w' ⟨rfl, rfl⟩))
                go_ret
                exact ⟨rfl, rfl⟩
            case' true =>
              go_enter Try.func47, Try.ntmps47
              go_wp2_with (first | (go_at_call 45; (with_reducible refine (C1.out _).mono ?_); rintro e w' ⟨rfl, rfl⟩) | (go_at_call 45; (with_reducible refine (C2.out _).mono ?_); rintro e w' ⟨rfl, rfl⟩) | (go_at_call 45; (with_reducible refine (C3.out _).mono ?_); rintro e w' ⟨rfl, rfl⟩) | (go_at_call 45; (with_reducible refine (C4.out _).mono ?_); rintro e w' ⟨rfl, rfl⟩) | (go_at_call 45; (with_reducible refine (C5.out _).mono ?_); rintro e w' ⟨rfl, rfl⟩) | (go_at_call 45; (with_reducible refine (C6.out _).mono ?_); rintro e w' ⟨rfl, rfl⟩) | (go_at_call 45; (with_reducible refine (C7.out _).mono ?_); rintro e w' ⟨rfl, rfl⟩))
              go_ret
              exact ⟨rfl, rfl⟩
          case' true =>
            go_enter Try.func47, Try.ntmps47
            go_wp2_with (first | (go_at_call 45; (with_reducible refine (C1.out _).mono ?_); rintro e w' ⟨rfl, rfl⟩) | (go_at_call 45; (with_reducible refine (C2.out _).mono ?_); rintro e w' ⟨rfl, rfl⟩) | (go_at_call 45; (with_reducible refine (C3.out _).mono ?_); rintro e w' ⟨rfl, rfl⟩) | (go_at_call 45; (with_reducible refine (C4.out _).mono ?_); rintro e w' ⟨rfl, rfl⟩) | (go_at_call 45; (with_reducible refine (C5.out _).mono ?_); rintro e w' ⟨rfl, rfl⟩) | (go_at_call 45; (with_reducible refine (C6.out _).mono ?_); rintro e w' ⟨rfl, rfl⟩) | (go_at_call 45; (with_reducible refine (C7.out _).mono ?_); rintro e w' ⟨rfl, rfl⟩))
            go_ret
            exact ⟨rfl, rfl⟩
        case' true =>
          go_enter Try.func47, Try.ntmps47
          go_wp2_with (first | (go_at_call 45; (with_reducible refine (C1.out _).mono ?_); rintro e w' ⟨rfl, rfl⟩) | (go_at_call 45; (with_reducible refine (C2.out _).mono ?_); rintro e w' ⟨rfl, rfl⟩) | (go_at_call 45; (with_reducible refine (C3.out _).mono ?_); rintro e w' ⟨rfl, rfl⟩) | (go_at_call 45; (with_reducible refine (C4.out _).mono ?_); rintro e w' ⟨rfl, rfl⟩) | (go_at_call 45; (with_reducible refine (C5.out _).mono ?_); rintro e w' ⟨rfl, rfl⟩) | (go_at_call 45; (with_reducible refine (C6.out _).mono ?_); rintro e w' ⟨rfl, rfl⟩) | (go_at_call 45; (with_reducible refine (C7.out _).mono ?_); rintro e w' ⟨rfl, rfl⟩))
          go_ret
          exact ⟨rfl, rfl⟩
      case' true =>
        go_enter Try.func47, Try.ntmps47
        go_wp2_with (first | (go_at_call 45; (with_reducible refine (C1.out _).mono ?_); rintro e w' ⟨rfl, rfl⟩) | (go_at_call 45; (with_reducible refine (C2.out _).mono ?_); rintro e w' ⟨rfl, rfl⟩) | (go_at_call 45; (with_reducible refine (C3.out _).mono ?_); rintro e w' ⟨rfl, rfl⟩) | (go_at_call 45; (with_reducible refine (C4.out _).mono ?_); rintro e w' ⟨rfl, rfl⟩) | (go_at_call 45; (with_reducible refine (C5.out _).mono ?_); rintro e w' ⟨rfl, rfl⟩) | (go_at_call 45; (with_reducible refine (C6.out _).mono ?_); rintro e w' ⟨rfl, rfl⟩) | (go_at_call 45; (with_reducible refine (C7.out _).mono ?_); rintro e w' ⟨rfl, rfl⟩))
        go_ret
        exact ⟨rfl, rfl⟩
    case' true =>
      go_enter Try.func47, Try.ntmps47
      go_wp2_with (first | (go_at_call 45; (with_reducible refine (C1.out _).mono ?_); rintro e w' ⟨rfl, rfl⟩) | (go_at_call 45; (with_reducible refine (C2.out _).mono ?_); rintro e w' ⟨rfl, rfl⟩) | (go_at_call 45; (with_reducible refine (C3.out _).mono ?_); rintro e w' ⟨rfl, rfl⟩) | (go_at_call 45; (with_reducible refine (C4.out _).mono ?_); rintro e w' ⟨rfl, rfl⟩) | (go_at_call 45; (with_reducible refine (C5.out _).mono ?_); rintro e w' ⟨rfl, rfl⟩) | (go_at_call 45; (with_reducible refine (C6.out _).mono ?_); rintro e w' ⟨rfl, rfl⟩) | (go_at_call 45; (with_reducible refine (C7.out _).mono ?_); rintro e w' ⟨rfl, rfl⟩))
      go_ret
      exact ⟨rfl, rfl⟩
  case' true =>
    cases b1
    case' true =>
      go_enter Try.func47, Try.ntmps47
      go_wp2_with (first | (go_at_call 45; (with_reducible refine (C1.out _).mono ?_); rintro e w' ⟨rfl, rfl⟩) | (go_at_call 45; (with_reducible refine (C2.out _).mono ?_); rintro e w' ⟨rfl, rfl⟩) | (go_at_call 45; (with_reducible refine (C3.out _).mono ?_); rintro e w' ⟨rfl, rfl⟩) | (go_at_call 45; (with_reducible refine (C4.out _).mono ?_); rintro e w' ⟨rfl, rfl⟩) | (go_at_call 45; (with_reducible refine (C5.out _).mono ?_); rintro e w' ⟨rfl, rfl⟩) | (go_at_call 45; (with_reducible refine (C6.out _).mono ?_); rintro e w' ⟨rfl, rfl⟩) | (go_at_call 45; (with_reducible refine (C7.out _).mono ?_); rintro e w' ⟨rfl, rfl⟩))
      go_ret
      exact ⟨rfl, rfl⟩
    case' false =>
      cases b2 <;> cases b3 <;> cases b4 <;> cases b5 <;> cases b6 <;> cases b7 <;>
      (skip
       go_enter Try.func47, Try.ntmps47
       go_wp2_with (first | (go_at_call 45; (with_reducible refine (C1.out _).mono ?_); rintro e w' ⟨rfl, rfl⟩) | (go_at_call 45; (with_reducible refine (C2.out _).mono ?_); rintro e w' ⟨rfl, rfl⟩) | (go_at_call 45; (with_reducible refine (C3.out _).mono ?_); rintro e w' ⟨rfl, rfl⟩) | (go_at_call 45; (with_reducible refine (C4.out _).mono ?_); rintro e w' ⟨rfl, rfl⟩) | (go_at_call 45; (with_reducible refine (C5.out _).mono ?_); rintro e w' ⟨rfl, rfl⟩) | (go_at_call 45; (with_reducible refine (C6.out _).mono ?_); rintro e w' ⟨rfl, rfl⟩) | (go_at_call 45; (with_reducible refine (C7.out _).mono ?_); rintro e w' ⟨rfl, rfl⟩))
       go_ret
       exact ⟨rfl, rfl⟩
       )
theorem partOf_any (l : Bs) (q : Bool) (w : World) :
    Calls Try.prog 47 #[.string (st l), .bool q] w fun e w' => e = .returned (.string (st (kb (kd q l)))) ∧ w' = w := by
  have := partOf_gen l q _ _ _ _ _ _ _ (pre_call l [92] _ rfl) (pre_call l [39] _ rfl) (pre_call l [34] _ rfl) (pre_call l [36, 40, 40] _ rfl) (pre_call l [36, 40] _ rfl) (pre_call l [36, 123] _ rfl) (pre_call l [96] _ rfl) w
  rw [← kd_pre] at this
  exact this
end Go.Proofs.Ytoahgblgchmclaa
