/- Contracts of the program's functions on bytes: digits, constants, names, signs. -/
/- Contracts of the program's baseOf, constant, nameSize, isSign, isAssign, signSize, tokenSize. -/
import Derived.Test.YtbmnngliapmgfaaGreatDoorAB
namespace Go.Proofs.YtbmnngliapmgfaaGreatDoor
open Go.RowKit
set_option linter.unusedVariables false
set_option linter.unusedSimpArgs false
theorem isDigit_any (c : UInt8) (w : World) :
    Calls Tryz.prog 60 #[.int .u8 c.toNat] w fun e w' => e = .returned (.bool (isDg c)) ∧ w' = w := by
  go_enter Tryz.func60, Tryz.ntmps60
  go_wp2
  all_goals
    go_ret
    exact ⟨ret_bool (by rw [Bool.eq_iff_iff]; simp only [isDg, Bool.and_eq_true, Bool.or_eq_true, decide_eq_true_eq, beq_iff_eq, Bool.false_eq_true, true_iff, false_iff]; omega), rfl⟩
theorem isLetter_any (c : UInt8) (w : World) :
    Calls Tryz.prog 49 #[.int .u8 c.toNat] w fun e w' => e = .returned (.bool (isLt c)) ∧ w' = w := by
  go_enter Tryz.func49, Tryz.ntmps49
  go_wp2
  all_goals
    go_ret
    exact ⟨ret_bool (by rw [Bool.eq_iff_iff]; simp only [isLt, Bool.and_eq_true, Bool.or_eq_true, decide_eq_true_eq, beq_iff_eq, Bool.false_eq_true, true_iff, false_iff]; omega), rfl⟩
theorem isConstant_any (s : ByteArray) (h : 0 < s.size) (w : World) :
    Calls Tryz.prog 45 #[.string s] w fun e w' => e = .returned (.bool (isC s.data.toList)) ∧ w' = w := by
  obtain ⟨r, hr⟩ := head_byte h
  have HC := Lib.hid (show isDg s[0] = isC s.data.toList by rw [hr]; rfl)
  clear hr
  go_enter Tryz.func45, Tryz.ntmps45
  go_wp2_with (go_at_call 60; refine (isDigit_any _ _).mono ?_; rintro e w' ⟨rfl, rfl⟩)
  go_ret
  exact ⟨ret_bool HC.out, rfl⟩
theorem isName_any (s : ByteArray) (h : 0 < s.size) (w : World) :
    Calls Tryz.prog 34 #[.string s] w fun e w' => e = .returned (.bool (isN s.data.toList)) ∧ w' = w := by
  obtain ⟨r, hr⟩ := head_byte h
  have HC := Lib.hid (show isLt s[0] = isN s.data.toList by rw [hr]; rfl)
  clear hr
  go_enter Tryz.func34, Tryz.ntmps34
  go_wp2_with (go_at_call 49; refine (isLetter_any _ _).mono ?_; rintro e w' ⟨rfl, rfl⟩)
  go_ret
  exact ⟨ret_bool HC.out, rfl⟩
theorem digitOf_any (c : UInt8) (w : World) :
    Calls Tryz.prog 62 #[.int .u8 c.toNat] w fun e w' => e = .returned (.int .u64 (dg c : Nat)) ∧ w' = w := by
  have hc := c.toNat_lt
  have h256 : c.toNat < 256 := hc
  cases hd : isDg c
  · have HD := Lib.hid hd
    by_cases h1 : 97 ≤ c.toNat ∧ c.toNat ≤ 102
    · have e : dg c = c.toNat - 87 := by unfold dg; rw [if_neg (by rw [hd]; decide), if_pos h1]
      have E := Lib.hid e
      obtain ⟨h1, h2⟩ := h1
      have i1 : (97 : Int) ≤ (c.toNat : Int) := by omega
      have i2 : (c.toNat : Int) ≤ 102 := by omega
      clear e
      go_enter Tryz.func62, Tryz.ntmps62
      go_wp2_with (go_at_call 60; refine (isDigit_any _ _).mono ?_; rintro e w' ⟨rfl, rfl⟩)
      all_goals
        go_ret
        exact ⟨ret_int (by rw [E.out]; omega), rfl⟩
    · by_cases h2 : 65 ≤ c.toNat ∧ c.toNat ≤ 70
      · have e : dg c = c.toNat - 55 := by unfold dg; rw [if_neg (by rw [hd]; decide), if_neg h1, if_pos h2]
        have E := Lib.hid e
        obtain ⟨h2, h3⟩ := h2
        have i1 : ¬ (97 : Int) ≤ (c.toNat : Int) := by omega
        have i2 : (65 : Int) ≤ (c.toNat : Int) := by omega
        have i3 : (c.toNat : Int) ≤ 70 := by omega
        clear e h1
        go_enter Tryz.func62, Tryz.ntmps62
        go_wp2_with (go_at_call 60; refine (isDigit_any _ _).mono ?_; rintro e w' ⟨rfl, rfl⟩)
        all_goals
          go_ret
          exact ⟨ret_int (by rw [E.out]; omega), rfl⟩
      · have e : dg c = 16 := by unfold dg; rw [if_neg (by rw [hd]; decide), if_neg h1, if_neg h2]
        have E := Lib.hid e
        have H1 := Lib.hid h1
        have H2 := Lib.hid h2
        clear e h1 h2
        go_enter Tryz.func62, Tryz.ntmps62
        go_wp2_with (go_at_call 60; refine (isDigit_any _ _).mono ?_; rintro e w' ⟨rfl, rfl⟩)
        all_goals
          first
            | (have := H1.out; have := H2.out; exfalso; omega)
            | (go_ret; exact ⟨ret_int (by rw [E.out]; rfl), rfl⟩)
  · obtain ⟨e, -⟩ := dg_digit hd
    have E := Lib.hid e
    have hr : 48 ≤ c.toNat ∧ c.toNat ≤ 57 := by simpa [isDg] using hd
    obtain ⟨h1, h2⟩ := hr
    clear e
    go_enter Tryz.func62, Tryz.ntmps62
    go_wp2_with (go_at_call 60; refine (isDigit_any _ _).mono ?_; rintro e w' ⟨rfl, rfl⟩)
    all_goals
      go_ret
      exact ⟨ret_int (by rw [E.out]; omega), rfl⟩
end Go.Proofs.YtbmnngliapmgfaaGreatDoor
namespace Go.Proofs.YtbmnngliapmgfaaGreatDoor
open Go.RowKit
set_option linter.unusedVariables false
set_option linter.unusedSimpArgs false
theorem list3 {s : ByteArray} (h : 2 < s.size) : ∃ r, s.data.toList = s[0] :: s[1] :: s[2] :: r := by
  refine ⟨s.data.toList.drop 3, ?_⟩
  rw [← at_byte (s := s) (k := 2) h, ← at_byte (s := s) (k := 1) (by omega), ← at_byte (s := s) (k := 0) (by omega)]
  rfl
theorem hexB_short {s : ByteArray} (h : ¬ 2 < s.size) : hexB s.data.toList = false := by
  have hl := size_len s
  unfold hexB
  split
  · rename_i heq
    rw [heq] at hl
    simp at hl
    omega
  · rfl
theorem head48 {s : ByteArray} (h : 0 < s.size) : s.data.toList.head? = some s[0] := by
  obtain ⟨r, hr⟩ := head_byte h
  rw [hr]; rfl
theorem ret_two {a b c d : Value} (h1 : a = c) (h2 : b = d) : Ending.returned (.tuple #[a, b]) = .returned (.tuple #[c, d]) := by rw [h1, h2]
set_option maxHeartbeats 1000000 in
theorem baseOf_any (s : ByteArray) (w : World) :
    Calls Tryz.prog 61 #[.string s] w fun e w' => e = .returned (.tuple #[.int .u64 ((base s.data.toList).1 : Nat), .int .i64 ((base s.data.toList).2 : Nat)]) ∧ w' = w := by
  by_cases h0 : 0 < s.size
  · have hne : s.toList.isEmpty = false := by
      obtain ⟨r, hr⟩ := head_byte h0
      rw [Lib.toList_data, hr]; rfl
    have hd := head48 h0
    cases hx : hexB s.data.toList
    · -- no hexadecimal one
      have hb : base s.data.toList = if s[0] = 48 then (8, 0) else (10, 0) := by
        unfold base
        rw [if_neg (by rw [hx]; decide), hd]
        by_cases e : s[0] = 48
        · rw [e]; simp
        · rw [if_neg (by simpa using e), if_neg e]
      by_cases h2 : 2 < s.size
      · obtain ⟨r, hr⟩ := list3 h2
        have hx' : (s[0] == 48 && (s[1] == 120 || s[1] == 88) && decide (dg s[2] < 16)) = false := by rw [hr] at hx; exact hx
        have HB := Lib.hid hb
        have HX := Lib.hid hx'
        clear hb hx hx' hr hd
        by_cases e0 : s[0] = 48
        · have g0 : (((s[0].toNat : Int) == 48) : Bool) = true := u8_true s[0] 48 e0
          rw [if_pos e0] at HB
          by_cases e1 : s[1] = 120
          · have g1 : (((s[1].toNat : Int) == 120) : Bool) = true := u8_true s[1] 120 e1
            have h3 : ¬ ((dg s[2] : Nat) : Int) < 16 := by have := HX.out; rw [e0, e1] at this; simp at this; omega
            clear e0 e1
            go_enter Tryz.func61, Tryz.ntmps61
            go_wp2_with (go_at_call 62; refine (digitOf_any _ _).mono ?_; rintro e w' ⟨rfl, rfl⟩)
            go_ret2
            exact ⟨by rw [HB.out]; rfl, rfl⟩
          · have g1 : (((s[1].toNat : Int) == 120) : Bool) = false := u8_false s[1] 120 e1
            by_cases e2 : s[1] = 88
            · have g2 : (((s[1].toNat : Int) == 88) : Bool) = true := u8_true s[1] 88 e2
              have h3 : ¬ ((dg s[2] : Nat) : Int) < 16 := by have := HX.out; rw [e0, e2] at this; simp at this; omega
              clear e0 e1 e2
              go_enter Tryz.func61, Tryz.ntmps61
              go_wp2_with (go_at_call 62; refine (digitOf_any _ _).mono ?_; rintro e w' ⟨rfl, rfl⟩)
              go_ret2
              exact ⟨by rw [HB.out]; rfl, rfl⟩
            · have g2 : (((s[1].toNat : Int) == 88) : Bool) = false := u8_false s[1] 88 e2
              clear e0 e1 e2
              go_enter Tryz.func61, Tryz.ntmps61
              go_wp2
              go_ret2
              exact ⟨by rw [HB.out]; rfl, rfl⟩
        · have g0 : (((s[0].toNat : Int) == 48) : Bool) = false := u8_false s[0] 48 e0
          rw [if_neg e0] at HB
          clear e0
          go_enter Tryz.func61, Tryz.ntmps61
          go_wp2
          go_ret2
          exact ⟨by rw [HB.out]; rfl, rfl⟩
      · have h2' : ¬ (2 : Int) < (s.size : Int) := by omega
        have HB := Lib.hid hb
        clear hb hx hd h2
        by_cases e0 : s[0] = 48
        · have g0 : (((s[0].toNat : Int) == 48) : Bool) = true := u8_true s[0] 48 e0
          rw [if_pos e0] at HB
          clear e0
          go_enter Tryz.func61, Tryz.ntmps61
          go_wp2
          go_ret2
          exact ⟨by rw [HB.out]; rfl, rfl⟩
        · have g0 : (((s[0].toNat : Int) == 48) : Bool) = false := u8_false s[0] 48 e0
          rw [if_neg e0] at HB
          clear e0
          go_enter Tryz.func61, Tryz.ntmps61
          go_wp2
          go_ret2
          exact ⟨by rw [HB.out]; rfl, rfl⟩
    · have h2 : 2 < s.size := by
        refine Classical.byContradiction fun hn => ?_
        rw [hexB_short hn] at hx; cases hx
      obtain ⟨r, hr⟩ := list3 h2
      have hx' : (s[0] == 48 && (s[1] == 120 || s[1] == 88) && decide (dg s[2] < 16)) = true := by rw [hr] at hx; exact hx
      have hb : base s.data.toList = (16, 2) := by unfold base; rw [if_pos hx]
      have HB := Lib.hid hb
      simp only [Bool.and_eq_true, Bool.or_eq_true, beq_iff_eq, decide_eq_true_eq] at hx'
      obtain ⟨⟨e0, e1⟩, h3⟩ := hx'
      have h3 : ((dg s[2] : Nat) : Int) < 16 := by omega
      have g0 : (((s[0].toNat : Int) == 48) : Bool) = true := u8_true s[0] 48 e0
      have h2' : (2 : Int) < (s.size : Int) := by omega
      clear hb hx hr hd e0
      by_cases e2 : s[1] = 120
      · have g1 : (((s[1].toNat : Int) == 120) : Bool) = true := u8_true s[1] 120 e2
        clear e1 e2
        go_enter Tryz.func61, Tryz.ntmps61
        go_wp2_with (go_at_call 62; refine (digitOf_any _ _).mono ?_; rintro e w' ⟨rfl, rfl⟩)
        go_ret2
        exact ⟨by rw [HB.out]; rfl, rfl⟩
      · have g1 : (((s[1].toNat : Int) == 120) : Bool) = false := u8_false s[1] 120 e2
        have g2 : (((s[1].toNat : Int) == 88) : Bool) = true := u8_true s[1] 88 (e1.resolve_left e2)
        clear e1 e2
        go_enter Tryz.func61, Tryz.ntmps61
        go_wp2_with (go_at_call 62; refine (digitOf_any _ _).mono ?_; rintro e w' ⟨rfl, rfl⟩)
        go_ret2
        exact ⟨by rw [HB.out]; rfl, rfl⟩
  · have hl : s.data.toList = [] := by
      have := size_len s
      match hl : s.data.toList with
      | [] => rfl
      | c :: r => rw [hl] at this; simp at this; omega
    have hne : s.toList.isEmpty = true := by rw [Lib.toList_data, hl]; rfl
    have hb : base s.data.toList = (10, 0) := by rw [hl]; rfl
    have HB := Lib.hid hb
    have h2' : ¬ (2 : Int) < (s.size : Int) := by omega
    clear hb hl
    go_enter Tryz.func61, Tryz.ntmps61
    go_wp2
    go_ret2
    exact ⟨by rw [HB.out]; rfl, rfl⟩
end Go.Proofs.YtbmnngliapmgfaaGreatDoor
