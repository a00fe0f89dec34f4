/- Contracts of the program's constant, nameSize, isAssign, isSign, signSize, tokenSize. -/
import Derived.Test.YtncjelemjdkklaaDoorAD
namespace Go.Proofs.YtncjelemjdkklaaDoor
open Go.RowKit
set_option linter.unusedVariables false
set_option linter.unusedSimpArgs false
theorem u64_wrap (n : Int) : IntKind.u64.wrap n = n % 18446744073709551616 := by
  simp only [IntKind.wrap, IntKind.bits, IntKind.signed, Bool.false_and, Bool.false_eq_true, if_false]
  rfl
theorem wrap_step (n b d : Nat) : IntKind.u64.wrap (IntKind.u64.wrap (IntKind.u64.wrap (n : Int) * (b : Int)) + (d : Int)) = IntKind.u64.wrap ((n * b + d : Nat) : Int) := by
  simp only [u64_wrap]
  push_cast
  rw [Int.emod_add_emod, Int.add_emod, Int.mul_emod, Int.emod_emod, ← Int.mul_emod, ← Int.add_emod]
theorem wrap_back (n : Int) : wrap64 (IntKind.u64.wrap n) = wrap64 n := by
  rw [u64_wrap]
  unfold wrap64
  omega
theorem wrap_bounds (n : Int) : 0 ≤ IntKind.u64.wrap n ∧ IntKind.u64.wrap n ≤ 18446744073709551615 := by
  rw [u64_wrap]
  omega
theorem dg_le (c : UInt8) : dg c ≤ 16 := by
  unfold dg
  split
  · rename_i h; have := dg_digit h; unfold isDg at h; simp at h; omega
  · split
    · omega
    · split <;> omega
def cRel (s : ByteArray) (b N : Nat) (V : Nat) (iv vv : Value) : Prop :=
  ∃ k n : Nat, iv = .int .i64 k ∧ vv = .int .u64 (IntKind.u64.wrap (n : Int)) ∧ k ≤ s.size ∧ dval b (s.data.toList.drop k) n = V ∧ k + dlen b (s.data.toList.drop k) = N
set_option maxHeartbeats 1000000 in
theorem constant_any (s : ByteArray) (hs : s.size ≤ maxLen) (w : World) :
    Calls Tryd.prog 32 #[.string s] w fun e w' => e = .returned (.tuple #[.int .i64 (cstV s.data.toList), .int .i64 (cstN s.data.toList : Nat)]) ∧ w' = w := by
  unfold maxLen at hs
  have hb2 := base_two s.data.toList
  have hbl := base_le s.data.toList
  rw [size_len] at hbl
  have HB := baseOf_any s w
  have HV := Lib.hid (show wrap64 (dval (base s.data.toList).1 (s.data.toList.drop (base s.data.toList).2) 0 : Nat) = cstV s.data.toList from rfl)
  have HN := Lib.hid (show (base s.data.toList).2 + dlen (base s.data.toList).1 (s.data.toList.drop (base s.data.toList).2) = cstN s.data.toList from rfl)
  generalize (base s.data.toList).1 = b at *
  generalize (base s.data.toList).2 = k0 at *
  have hb0 : b ≤ 16 := by omega
  have hb1 : 8 ≤ b := by omega
  clear hb2
  generalize hVe : dval b (s.data.toList.drop k0) 0 = V at *
  have HVe := Lib.hid hVe
  generalize hNe : k0 + dlen b (s.data.toList.drop k0) = N at *
  have HNe := Lib.hid hNe
  clear hVe hNe
  go_enter Tryd.func32, Tryd.ntmps32
  go_wp2_with (go_at_call 47; refine HB.mono ?_; rintro e w' ⟨rfl, rfl⟩)
  clear HB
  go_loop [5, 6] (fun iv vv => cRel s b N V iv vv) (fun iv _ => s.size - (intOf iv).toNat)
  case atStart => exact ⟨k0, 0, rfl, by rfl, hbl, HVe.out, HNe.out⟩
  case round =>
    obtain ⟨k, n, rfl, rfl, hk, hv, hn⟩ := hrel
    have hwb := wrap_bounds (n : Int)
    by_cases hlt : k < s.size
    · have hat := at_byte hlt
      have hd16 := dg_le s[k]
      by_cases hd : dg s[k] < b
      · have hd' : ((dg s[k] : Nat) : Int) < (b : Int) := by omega
        have R := Lib.hid (show cRel s b N V (.int .i64 ((k + 1 : Nat) : Int)) (.int .u64 (IntKind.u64.wrap (IntKind.u64.wrap (IntKind.u64.wrap (n : Int) * (b : Int)) + ((dg s[k] : Nat) : Int)))) from by
          rw [hat] at hv hn
          rw [dval, if_pos hd] at hv
          rw [dlen, if_pos hd] at hn
          exact ⟨k + 1, n * b + dg s[k], rfl, by rw [wrap_step], hlt, hv, by omega⟩)
        clear hv hn hat hd HVe HNe HV HN
        generalize IntKind.u64.wrap (n : Int) = x at *
        generalize hdd : dg s[k] = d at *
        have HC : ∀ w, Calls Tryd.prog 48 #[.int .u8 s[k].toNat] w fun e w' => e = .returned (.int .u64 (d : Nat)) ∧ w' = w := fun w => by rw [← hdd]; exact digitOf_any _ w
        have HC := Lib.hid HC
        clear hdd
        go_wp2_with (go_at_call 48; (with_reducible refine (HC.out _).mono ?_); rintro e w' ⟨rfl, rfl⟩)
        go_round
        case rel =>
          have := R.out
          simpa using this
        case measure => simp [intOf]; omega
      · have hd' : ¬ ((dg s[k] : Nat) : Int) < (b : Int) := by omega
        rw [hat] at hv hn
        rw [dval, if_neg hd] at hv
        rw [dlen, if_neg hd] at hn
        have E := Lib.hid (show wrap64 (IntKind.u64.wrap (n : Int)) = cstV s.data.toList by rw [wrap_back, hv]; exact HV.out)
        have E2 := Lib.hid (show k = cstN s.data.toList by rw [← HN.out]; omega)
        clear hv hn hat hd HVe HNe HV HN
        generalize IntKind.u64.wrap (n : Int) = x at *
        generalize hdd : dg s[k] = d at *
        have HC : ∀ w, Calls Tryd.prog 48 #[.int .u8 s[k].toNat] w fun e w' => e = .returned (.int .u64 (d : Nat)) ∧ w' = w := fun w => by rw [← hdd]; exact digitOf_any _ w
        have HC := Lib.hid HC
        clear hdd
        go_wp2_with (go_at_call 48; (with_reducible refine (HC.out _).mono ?_); rintro e w' ⟨rfl, rfl⟩)
        go_ret2
        exact ⟨ret_two (show Value.int .i64 (wrap64 x) = _ by rw [E.out]) (show Value.int .i64 _ = _ by rw [← E2.out]), rfl⟩
    · have hke : k = s.size := by omega
      rw [List.drop_eq_nil_of_le (by rw [size_len]; omega)] at hv hn
      rw [dval] at hv
      rw [dlen] at hn
      have E := Lib.hid (show wrap64 (IntKind.u64.wrap (n : Int)) = cstV s.data.toList by rw [wrap_back, hv]; exact HV.out)
      have E2 := Lib.hid (show s.size = cstN s.data.toList by rw [← HN.out]; omega)
      subst hke
      clear hv hn HVe HNe HV HN
      generalize IntKind.u64.wrap (n : Int) = x at *
      go_wp2
      go_ret2
      exact ⟨ret_two (show Value.int .i64 (wrap64 x) = _ by rw [E.out]) (show Value.int .i64 _ = _ by rw [← E2.out]), rfl⟩
def nRel (s : ByteArray) (N : Nat) (iv : Value) : Prop := ∃ k : Nat, iv = .int .i64 k ∧ k ≤ s.size ∧ k + nameN (s.data.toList.drop k) = N
theorem nameSize_any (s : ByteArray) (hs : s.size ≤ maxLen) (w : World) :
    Calls Tryd.prog 33 #[.string s] w fun e w' => e = .returned (.int .i64 (nameN s.data.toList : Nat)) ∧ w' = w := by
  unfold maxLen at hs
  obtain ⟨N, hN⟩ : ∃ N, nameN s.data.toList = N := ⟨_, rfl⟩
  have HN := Lib.hid hN
  clear hN
  go_enter Tryd.func33, Tryd.ntmps33
  go_wp2
  go_loop [3] (fun iv => nRel s N iv) (fun iv => s.size - (intOf iv).toNat)
  case atStart => exact ⟨0, rfl, Nat.zero_le _, by rw [List.drop_zero, HN.out]; omega⟩
  case round =>
    obtain ⟨k, rfl, hk, hn⟩ := hrel
    by_cases hlt : k < s.size
    · have hat := at_byte hlt
      rw [hat, nameN] at hn
      have R := Lib.hid (fun (h : (isLt s[k] || isDg s[k]) = true) => show nRel s N (.int .i64 ((k + 1 : Nat) : Int)) from ⟨k + 1, rfl, hlt, by rw [if_pos h] at hn; omega⟩)
      have E := Lib.hid (fun (h : (isLt s[k] || isDg s[k]) = false) => show N = k by rw [if_neg (by rw [h]; decide)] at hn; omega)
      clear hn hat
      generalize hl : isLt s[k] = lt at *
      generalize hd : isDg s[k] = dt at *
      have HL : ∀ w, Calls Tryd.prog 35 #[.int .u8 s[k].toNat] w fun e w' => e = .returned (.bool lt) ∧ w' = w := fun w => by rw [← hl]; exact isLetter_any _ w
      have HD : ∀ w, Calls Tryd.prog 46 #[.int .u8 s[k].toNat] w fun e w' => e = .returned (.bool dt) ∧ w' = w := fun w => by rw [← hd]; exact isDigit_any _ w
      have HL := Lib.hid HL
      have HD := Lib.hid HD
      clear hl hd
      cases lt
      · cases dt
        · have E := Lib.hid (E.out rfl)
          clear R
          go_wp2_with (first | (go_at_call 35; (with_reducible refine (HL.out _).mono ?_); rintro e w' ⟨rfl, rfl⟩) | (go_at_call 46; (with_reducible refine (HD.out _).mono ?_); rintro e w' ⟨rfl, rfl⟩))
          go_ret
          exact ⟨ret_int (by rw [HN.out, E.out]), rfl⟩
        · have R := Lib.hid (R.out rfl)
          clear E
          go_wp2_with (first | (go_at_call 35; (with_reducible refine (HL.out _).mono ?_); rintro e w' ⟨rfl, rfl⟩) | (go_at_call 46; (with_reducible refine (HD.out _).mono ?_); rintro e w' ⟨rfl, rfl⟩))
          go_round
          case rel => simpa using R.out
          case measure => simp [intOf]; omega
      · have R := Lib.hid (R.out rfl)
        clear E
        go_wp2_with (first | (go_at_call 35; (with_reducible refine (HL.out _).mono ?_); rintro e w' ⟨rfl, rfl⟩) | (go_at_call 46; (with_reducible refine (HD.out _).mono ?_); rintro e w' ⟨rfl, rfl⟩))
        go_round
        case rel => simpa using R.out
        case measure => simp [intOf]; omega
    · have hke : k = s.size := by omega
      rw [List.drop_eq_nil_of_le (by rw [size_len]; omega), nameN] at hn
      subst hke
      have E := Lib.hid (show N = s.size by omega)
      clear hn
      go_wp2
      go_ret
      exact ⟨ret_int (by rw [HN.out, E.out]), rfl⟩
end Go.Proofs.YtncjelemjdkklaaDoor
