/- Contracts of the program's baseOf, constant, nameSize, isSign, isAssign, signSize, tokenSize. -/
import Derived.Test.YtncjelemjdkklaaDoorAC
namespace Go.Proofs.YtncjelemjdkklaaDoor
open Go.RowKit
set_option linter.unusedVariables false
set_option linter.unusedSimpArgs false
theorem list3 {s : ByteArray} (h : 2 < s.size) : ∃ r, s.data.toList = s[0] :: s[1] :: s[2] :: r := by
  refine ⟨s.data.toList.drop 3, ?_⟩
  rw [← at_byte (s := s) (k := 2) h, ← at_byte (s := s) (k := 1) (by omega), ← at_byte (s := s) (k := 0) (by omega)]
  rfl
theorem hexB_short {s : ByteArray} (h : ¬ 2 < s.size) : hexB s.data.toList = false := by
  have hl := size_len s
  unfold hexB
  split
  · rename_i heq
    rw [heq] at hl
    simp at hl
    omega
  · rfl
theorem head48 {s : ByteArray} (h : 0 < s.size) : s.data.toList.head? = some s[0] := by
  obtain ⟨r, hr⟩ := head_byte h
  rw [hr]; rfl
theorem ret_two {a b c d : Value} (h1 : a = c) (h2 : b = d) : Ending.returned (.tuple #[a, b]) = .returned (.tuple #[c, d]) := by rw [h1, h2]
set_option maxHeartbeats 1000000 in
theorem baseOf_any (s : ByteArray) (w : World) :
    Calls Tryd.prog 47 #[.string s] w fun e w' => e = .returned (.tuple #[.int .u64 ((base s.data.toList).1 : Nat), .int .i64 ((base s.data.toList).2 : Nat)]) ∧ w' = w := by
  by_cases h0 : 0 < s.size
  · have hne : s.toList.isEmpty = false := by
      obtain ⟨r, hr⟩ := head_byte h0
      rw [Lib.toList_data, hr]; rfl
    have hd := head48 h0
    cases hx : hexB s.data.toList
    · -- no hexadecimal one
      have hb : base s.data.toList = if s[0] = 48 then (8, 0) else (10, 0) := by
        unfold base
        rw [if_neg (by rw [hx]; decide), hd]
        by_cases e : s[0] = 48
        · rw [e]; simp
        · rw [if_neg (by simpa using e), if_neg e]
      by_cases h2 : 2 < s.size
      · obtain ⟨r, hr⟩ := list3 h2
        have hx' : (s[0] == 48 && (s[1] == 120 || s[1] == 88) && decide (dg s[2] < 16)) = false := by rw [hr] at hx; exact hx
        have HB := Lib.hid hb
        have HX := Lib.hid hx'
        clear hb hx hx' hr hd
        by_cases e0 : s[0] = 48
        · have g0 : (((s[0].toNat : Int) == 48) : Bool) = true := u8_true s[0] 48 e0
          rw [if_pos e0] at HB
          by_cases e1 : s[1] = 120
          · have g1 : (((s[1].toNat : Int) == 120) : Bool) = true := u8_true s[1] 120 e1
            have h3 : ¬ ((dg s[2] : Nat) : Int) < 16 := by have := HX.out; rw [e0, e1] at this; simp at this; omega
            clear e0 e1
            go_enter Tryd.func47, Tryd.ntmps47
            go_wp2_with (go_at_call 48; refine (digitOf_any _ _).mono ?_; rintro e w' ⟨rfl, rfl⟩)
            go_ret2
            exact ⟨by rw [HB.out]; rfl, rfl⟩
          · have g1 : (((s[1].toNat : Int) == 120) : Bool) = false := u8_false s[1] 120 e1
            by_cases e2 : s[1] = 88
            · have g2 : (((s[1].toNat : Int) == 88) : Bool) = true := u8_true s[1] 88 e2
              have h3 : ¬ ((dg s[2] : Nat) : Int) < 16 := by have := HX.out; rw [e0, e2] at this; simp at this; omega
              clear e0 e1 e2
              go_enter Tryd.func47, Tryd.ntmps47
              go_wp2_with (go_at_call 48; refine (digitOf_any _ _).mono ?_; rintro e w' ⟨rfl, rfl⟩)
              go_ret2
              exact ⟨by rw [HB.out]; rfl, rfl⟩
            · have g2 : (((s[1].toNat : Int) == 88) : Bool) = false := u8_false s[1] 88 e2
              clear e0 e1 e2
              go_enter Tryd.func47, Tryd.ntmps47
              go_wp2
              go_ret2
              exact ⟨by rw [HB.out]; rfl, rfl⟩
        · have g0 : (((s[0].toNat : Int) == 48) : Bool) = false := u8_false s[0] 48 e0
          rw [if_neg e0] at HB
          clear e0
          go_enter Tryd.func47, Tryd.ntmps47
          go_wp2
          go_ret2
          exact ⟨by rw [HB.out]; rfl, rfl⟩
      · have h2' : ¬ (2 : Int) < (s.size : Int) := by omega
        have HB := Lib.hid hb
        clear hb hx hd h2
        by_cases e0 : s[0] = 48
        · have g0 : (((s[0].toNat : Int) == 48) : Bool) = true := u8_true s[0] 48 e0
          rw [if_pos e0] at HB
          clear e0
          go_enter Tryd.func47, Tryd.ntmps47
          go_wp2
          go_ret2
          exact ⟨by rw [HB.out]; rfl, rfl⟩
        · have g0 : (((s[0].toNat : Int) == 48) : Bool) = false := u8_false s[0] 48 e0
          rw [if_neg e0] at HB
          clear e0
          go_enter Tryd.func47, Tryd.ntmps47
          go_wp2
          go_ret2
          exact ⟨by rw [HB.out]; rfl, rfl⟩
    · have h2 : 2 < s.size := by
        refine Classical.byContradiction fun hn => ?_
        rw [hexB_short hn] at hx; cases hx
      obtain ⟨r, hr⟩ := list3 h2
      have hx' : (s[0] == 48 && (s[1] == 120 || s[1] == 88) && decide (dg s[2] < 16)) = true := by rw [hr] at hx; exact hx
      have hb : base s.data.toList = (16, 2) := by unfold base; rw [if_pos hx]
      have HB := Lib.hid hb
      simp only [Bool.and_eq_true, Bool.or_eq_true, beq_iff_eq, decide_eq_true_eq] at hx'
      obtain ⟨⟨e0, e1⟩, h3⟩ := hx'
      have h3 : ((dg s[2] : Nat) : Int) < 16 := by omega
      have g0 : (((s[0].toNat : Int) == 48) : Bool) = true := u8_true s[0] 48 e0
      have h2' : (2 : Int) < (s.size : Int) := by omega
      clear hb hx hr hd e0
      by_cases e2 : s[1] = 120
      · have g1 : (((s[1].toNat : Int) == 120) : Bool) = true := u8_true s[1] 120 e2
        clear e1 e2
        go_enter Tryd.func47, Tryd.ntmps47
        go_wp2_with (go_at_call 48; refine (digitOf_any _ _).mono ?_; rintro e w' ⟨rfl, rfl⟩)
        go_ret2
        exact ⟨by rw [HB.out]; rfl, rfl⟩
      · have g1 : (((s[1].toNat : Int) == 120) : Bool) = false := u8_false s[1] 120 e2
        have g2 : (((s[1].toNat : Int) == 88) : Bool) = true := u8_true s[1] 88 (e1.resolve_left e2)
        clear e1 e2
        go_enter Tryd.func47, Tryd.ntmps47
        go_wp2_with (go_at_call 48; refine (digitOf_any _ _).mono ?_; rintro e w' ⟨rfl, rfl⟩)
        go_ret2
        exact ⟨by rw [HB.out]; rfl, rfl⟩
  · have hl : s.data.toList = [] := by
      have := size_len s
      match hl : s.data.toList with
      | [] => rfl
      | c :: r => rw [hl] at this; simp at this; omega
    have hne : s.toList.isEmpty = true := by rw [Lib.toList_data, hl]; rfl
    have hb : base s.data.toList = (10, 0) := by rw [hl]; rfl
    have HB := Lib.hid hb
    have h2' : ¬ (2 : Int) < (s.size : Int) := by omega
    clear hb hl
    go_enter Tryd.func47, Tryd.ntmps47
    go_wp2
    go_ret2
    exact ⟨by rw [HB.out]; rfl, rfl⟩
end Go.Proofs.YtncjelemjdkklaaDoor
