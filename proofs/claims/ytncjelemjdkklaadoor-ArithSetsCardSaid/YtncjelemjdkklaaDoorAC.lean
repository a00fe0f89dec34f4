/- Contracts of the program's functions on bytes: digits, constants, names, signs. -/
import Derived.Test.YtncjelemjdkklaaDoorAB
namespace Go.Proofs.YtncjelemjdkklaaDoor
open Go.RowKit
set_option linter.unusedVariables false
set_option linter.unusedSimpArgs false
theorem isDigit_any (c : UInt8) (w : World) :
    Calls Tryd.prog 46 #[.int .u8 c.toNat] w fun e w' => e = .returned (.bool (isDg c)) ∧ w' = w := by
  go_enter Tryd.func46, Tryd.ntmps46
  go_wp2
  all_goals
    go_ret
    exact ⟨ret_bool (by rw [Bool.eq_iff_iff]; simp only [isDg, Bool.and_eq_true, Bool.or_eq_true, decide_eq_true_eq, beq_iff_eq, Bool.false_eq_true, true_iff, false_iff]; omega), rfl⟩
theorem isLetter_any (c : UInt8) (w : World) :
    Calls Tryd.prog 35 #[.int .u8 c.toNat] w fun e w' => e = .returned (.bool (isLt c)) ∧ w' = w := by
  go_enter Tryd.func35, Tryd.ntmps35
  go_wp2
  all_goals
    go_ret
    exact ⟨ret_bool (by rw [Bool.eq_iff_iff]; simp only [isLt, Bool.and_eq_true, Bool.or_eq_true, decide_eq_true_eq, beq_iff_eq, Bool.false_eq_true, true_iff, false_iff]; omega), rfl⟩
theorem isConstant_any (s : ByteArray) (h : 0 < s.size) (w : World) :
    Calls Tryd.prog 31 #[.string s] w fun e w' => e = .returned (.bool (isC s.data.toList)) ∧ w' = w := by
  obtain ⟨r, hr⟩ := head_byte h
  have HC := Lib.hid (show isDg s[0] = isC s.data.toList by rw [hr]; rfl)
  clear hr
  go_enter Tryd.func31, Tryd.ntmps31
  go_wp2_with (go_at_call 46; refine (isDigit_any _ _).mono ?_; rintro e w' ⟨rfl, rfl⟩)
  go_ret
  exact ⟨ret_bool HC.out, rfl⟩
theorem isName_any (s : ByteArray) (h : 0 < s.size) (w : World) :
    Calls Tryd.prog 22 #[.string s] w fun e w' => e = .returned (.bool (isN s.data.toList)) ∧ w' = w := by
  obtain ⟨r, hr⟩ := head_byte h
  have HC := Lib.hid (show isLt s[0] = isN s.data.toList by rw [hr]; rfl)
  clear hr
  go_enter Tryd.func22, Tryd.ntmps22
  go_wp2_with (go_at_call 35; refine (isLetter_any _ _).mono ?_; rintro e w' ⟨rfl, rfl⟩)
  go_ret
  exact ⟨ret_bool HC.out, rfl⟩
theorem digitOf_any (c : UInt8) (w : World) :
    Calls Tryd.prog 48 #[.int .u8 c.toNat] w fun e w' => e = .returned (.int .u64 (dg c : Nat)) ∧ w' = w := by
  have hc := c.toNat_lt
  have h256 : c.toNat < 256 := hc
  cases hd : isDg c
  · have HD := Lib.hid hd
    by_cases h1 : 97 ≤ c.toNat ∧ c.toNat ≤ 102
    · have e : dg c = c.toNat - 87 := by unfold dg; rw [if_neg (by rw [hd]; decide), if_pos h1]
      have E := Lib.hid e
      obtain ⟨h1, h2⟩ := h1
      have i1 : (97 : Int) ≤ (c.toNat : Int) := by omega
      have i2 : (c.toNat : Int) ≤ 102 := by omega
      clear e
      go_enter Tryd.func48, Tryd.ntmps48
      go_wp2_with (go_at_call 46; refine (isDigit_any _ _).mono ?_; rintro e w' ⟨rfl, rfl⟩)
      all_goals
        go_ret
        exact ⟨ret_int (by rw [E.out]; omega), rfl⟩
    · by_cases h2 : 65 ≤ c.toNat ∧ c.toNat ≤ 70
      · have e : dg c = c.toNat - 55 := by unfold dg; rw [if_neg (by rw [hd]; decide), if_neg h1, if_pos h2]
        have E := Lib.hid e
        obtain ⟨h2, h3⟩ := h2
        have i1 : ¬ (97 : Int) ≤ (c.toNat : Int) := by omega
        have i2 : (65 : Int) ≤ (c.toNat : Int) := by omega
        have i3 : (c.toNat : Int) ≤ 70 := by omega
        clear e h1
        go_enter Tryd.func48, Tryd.ntmps48
        go_wp2_with (go_at_call 46; refine (isDigit_any _ _).mono ?_; rintro e w' ⟨rfl, rfl⟩)
        all_goals
          go_ret
          exact ⟨ret_int (by rw [E.out]; omega), rfl⟩
      · have e : dg c = 16 := by unfold dg; rw [if_neg (by rw [hd]; decide), if_neg h1, if_neg h2]
        have E := Lib.hid e
        have H1 := Lib.hid h1
        have H2 := Lib.hid h2
        clear e h1 h2
        go_enter Tryd.func48, Tryd.ntmps48
        go_wp2_with (go_at_call 46; refine (isDigit_any _ _).mono ?_; rintro e w' ⟨rfl, rfl⟩)
        all_goals
          first
            | (have := H1.out; have := H2.out; exfalso; omega)
            | (go_ret; exact ⟨ret_int (by rw [E.out]; rfl), rfl⟩)
  · obtain ⟨e, -⟩ := dg_digit hd
    have E := Lib.hid e
    have hr : 48 ≤ c.toNat ∧ c.toNat ≤ 57 := by simpa [isDg] using hd
    obtain ⟨h1, h2⟩ := hr
    clear e
    go_enter Tryd.func48, Tryd.ntmps48
    go_wp2_with (go_at_call 46; refine (isDigit_any _ _).mono ?_; rintro e w' ⟨rfl, rfl⟩)
    all_goals
      go_ret
      exact ⟨ret_int (by rw [E.out]; omega), rfl⟩
end Go.Proofs.YtncjelemjdkklaaDoor
