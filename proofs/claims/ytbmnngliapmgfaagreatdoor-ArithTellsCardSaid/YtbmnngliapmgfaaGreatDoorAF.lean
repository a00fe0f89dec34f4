/- Contracts of the program's constant, nameSize, isAssign, isSign, signSize, tokenSize. -/
/- Contracts of the program's isAssign, isSign, signSize, tokenSize. -/
import Derived.Test.YtbmnngliapmgfaaGreatDoorAD
namespace Go.Proofs.YtbmnngliapmgfaaGreatDoor
open Go.RowKit
set_option linter.unusedVariables false
set_option linter.unusedSimpArgs false
theorem u64_wrap (n : Int) : IntKind.u64.wrap n = n % 18446744073709551616 := by
  simp only [IntKind.wrap, IntKind.bits, IntKind.signed, Bool.false_and, Bool.false_eq_true, if_false]
  rfl
theorem wrap_step (n b d : Nat) : IntKind.u64.wrap (IntKind.u64.wrap (IntKind.u64.wrap (n : Int) * (b : Int)) + (d : Int)) = IntKind.u64.wrap ((n * b + d : Nat) : Int) := by
  simp only [u64_wrap]
  push_cast
  rw [Int.emod_add_emod, Int.add_emod, Int.mul_emod, Int.emod_emod, ← Int.mul_emod, ← Int.add_emod]
theorem wrap_back (n : Int) : wrap64 (IntKind.u64.wrap n) = wrap64 n := by
  rw [u64_wrap]
  unfold wrap64
  omega
theorem wrap_bounds (n : Int) : 0 ≤ IntKind.u64.wrap n ∧ IntKind.u64.wrap n ≤ 18446744073709551615 := by
  rw [u64_wrap]
  omega
theorem dg_le (c : UInt8) : dg c ≤ 16 := by
  unfold dg
  split
  · rename_i h; have := dg_digit h; unfold isDg at h; simp at h; omega
  · split
    · omega
    · split <;> omega
def cRel (s : ByteArray) (b N : Nat) (V : Nat) (iv vv : Value) : Prop :=
  ∃ k n : Nat, iv = .int .i64 k ∧ vv = .int .u64 (IntKind.u64.wrap (n : Int)) ∧ k ≤ s.size ∧ dval b (s.data.toList.drop k) n = V ∧ k + dlen b (s.data.toList.drop k) = N
set_option maxHeartbeats 1000000 in
theorem constant_any (s : ByteArray) (hs : s.size ≤ maxLen) (w : World) :
    Calls Tryz.prog 46 #[.string s] w fun e w' => e = .returned (.tuple #[.int .i64 (cstV s.data.toList), .int .i64 (cstN s.data.toList : Nat)]) ∧ w' = w := by
  unfold maxLen at hs
  have hb2 := base_two s.data.toList
  have hbl := base_le s.data.toList
  rw [size_len] at hbl
  have HB := baseOf_any s w
  have HV := Lib.hid (show wrap64 (dval (base s.data.toList).1 (s.data.toList.drop (base s.data.toList).2) 0 : Nat) = cstV s.data.toList from rfl)
  have HN := Lib.hid (show (base s.data.toList).2 + dlen (base s.data.toList).1 (s.data.toList.drop (base s.data.toList).2) = cstN s.data.toList from rfl)
  generalize (base s.data.toList).1 = b at *
  generalize (base s.data.toList).2 = k0 at *
  have hb0 : b ≤ 16 := by omega
  have hb1 : 8 ≤ b := by omega
  clear hb2
  generalize hVe : dval b (s.data.toList.drop k0) 0 = V at *
  have HVe := Lib.hid hVe
  generalize hNe : k0 + dlen b (s.data.toList.drop k0) = N at *
  have HNe := Lib.hid hNe
  clear hVe hNe
  go_enter Tryz.func46, Tryz.ntmps46
  go_wp2_with (go_at_call 61; refine HB.mono ?_; rintro e w' ⟨rfl, rfl⟩)
  clear HB
  go_loop [5, 6] (fun iv vv => cRel s b N V iv vv) (fun iv _ => s.size - (intOf iv).toNat)
  case atStart => exact ⟨k0, 0, rfl, by rfl, hbl, HVe.out, HNe.out⟩
  case round =>
    obtain ⟨k, n, rfl, rfl, hk, hv, hn⟩ := hrel
    have hwb := wrap_bounds (n : Int)
    by_cases hlt : k < s.size
    · have hat := at_byte hlt
      have hd16 := dg_le s[k]
      by_cases hd : dg s[k] < b
      · have hd' : ((dg s[k] : Nat) : Int) < (b : Int) := by omega
        have R := Lib.hid (show cRel s b N V (.int .i64 ((k + 1 : Nat) : Int)) (.int .u64 (IntKind.u64.wrap (IntKind.u64.wrap (IntKind.u64.wrap (n : Int) * (b : Int)) + ((dg s[k] : Nat) : Int)))) from by
          rw [hat] at hv hn
          rw [dval, if_pos hd] at hv
          rw [dlen, if_pos hd] at hn
          exact ⟨k + 1, n * b + dg s[k], rfl, by rw [wrap_step], hlt, hv, by omega⟩)
        clear hv hn hat hd HVe HNe HV HN
        generalize IntKind.u64.wrap (n : Int) = x at *
        generalize hdd : dg s[k] = d at *
        have HC : ∀ w, Calls Tryz.prog 62 #[.int .u8 s[k].toNat] w fun e w' => e = .returned (.int .u64 (d : Nat)) ∧ w' = w := fun w => by rw [← hdd]; exact digitOf_any _ w
        have HC := Lib.hid HC
        clear hdd
        go_wp2_with (go_at_call 62; (with_reducible refine (HC.out _).mono ?_); rintro e w' ⟨rfl, rfl⟩)
        go_round
        case rel =>
          have := R.out
          simpa using this
        case measure => simp [intOf]; omega
      · have hd' : ¬ ((dg s[k] : Nat) : Int) < (b : Int) := by omega
        rw [hat] at hv hn
        rw [dval, if_neg hd] at hv
        rw [dlen, if_neg hd] at hn
        have E := Lib.hid (show wrap64 (IntKind.u64.wrap (n : Int)) = cstV s.data.toList by rw [wrap_back, hv]; exact HV.out)
        have E2 := Lib.hid (show k = cstN s.data.toList by rw [← HN.out]; omega)
        clear hv hn hat hd HVe HNe HV HN
        generalize IntKind.u64.wrap (n : Int) = x at *
        generalize hdd : dg s[k] = d at *
        have HC : ∀ w, Calls Tryz.prog 62 #[.int .u8 s[k].toNat] w fun e w' => e = .returned (.int .u64 (d : Nat)) ∧ w' = w := fun w => by rw [← hdd]; exact digitOf_any _ w
        have HC := Lib.hid HC
        clear hdd
        go_wp2_with (go_at_call 62; (with_reducible refine (HC.out _).mono ?_); rintro e w' ⟨rfl, rfl⟩)
        go_ret2
        exact ⟨ret_two (show Value.int .i64 (wrap64 x) = _ by rw [E.out]) (show Value.int .i64 _ = _ by rw [← E2.out]), rfl⟩
    · have hke : k = s.size := by omega
      rw [List.drop_eq_nil_of_le (by rw [size_len]; omega)] at hv hn
      rw [dval] at hv
      rw [dlen] at hn
      have E := Lib.hid (show wrap64 (IntKind.u64.wrap (n : Int)) = cstV s.data.toList by rw [wrap_back, hv]; exact HV.out)
      have E2 := Lib.hid (show s.size = cstN s.data.toList by rw [← HN.out]; omega)
      subst hke
      clear hv hn HVe HNe HV HN
      generalize IntKind.u64.wrap (n : Int) = x at *
      go_wp2
      go_ret2
      exact ⟨ret_two (show Value.int .i64 (wrap64 x) = _ by rw [E.out]) (show Value.int .i64 _ = _ by rw [← E2.out]), rfl⟩
def nRel (s : ByteArray) (N : Nat) (iv : Value) : Prop := ∃ k : Nat, iv = .int .i64 k ∧ k ≤ s.size ∧ k + nameN (s.data.toList.drop k) = N
theorem nameSize_any (s : ByteArray) (hs : s.size ≤ maxLen) (w : World) :
    Calls Tryz.prog 47 #[.string s] w fun e w' => e = .returned (.int .i64 (nameN s.data.toList : Nat)) ∧ w' = w := by
  unfold maxLen at hs
  obtain ⟨N, hN⟩ : ∃ N, nameN s.data.toList = N := ⟨_, rfl⟩
  have HN := Lib.hid hN
  clear hN
  go_enter Tryz.func47, Tryz.ntmps47
  go_wp2
  go_loop [3] (fun iv => nRel s N iv) (fun iv => s.size - (intOf iv).toNat)
  case atStart => exact ⟨0, rfl, Nat.zero_le _, by rw [List.drop_zero, HN.out]; omega⟩
  case round =>
    obtain ⟨k, rfl, hk, hn⟩ := hrel
    by_cases hlt : k < s.size
    · have hat := at_byte hlt
      rw [hat, nameN] at hn
      have R := Lib.hid (fun (h : (isLt s[k] || isDg s[k]) = true) => show nRel s N (.int .i64 ((k + 1 : Nat) : Int)) from ⟨k + 1, rfl, hlt, by rw [if_pos h] at hn; omega⟩)
      have E := Lib.hid (fun (h : (isLt s[k] || isDg s[k]) = false) => show N = k by rw [if_neg (by rw [h]; decide)] at hn; omega)
      clear hn hat
      generalize hl : isLt s[k] = lt at *
      generalize hd : isDg s[k] = dt at *
      have HL : ∀ w, Calls Tryz.prog 49 #[.int .u8 s[k].toNat] w fun e w' => e = .returned (.bool lt) ∧ w' = w := fun w => by rw [← hl]; exact isLetter_any _ w
      have HD : ∀ w, Calls Tryz.prog 60 #[.int .u8 s[k].toNat] w fun e w' => e = .returned (.bool dt) ∧ w' = w := fun w => by rw [← hd]; exact isDigit_any _ w
      have HL := Lib.hid HL
      have HD := Lib.hid HD
      clear hl hd
      cases lt
      · cases dt
        · have E := Lib.hid (E.out rfl)
          clear R
          go_wp2_with (first | (go_at_call 49; (with_reducible refine (HL.out _).mono ?_); rintro e w' ⟨rfl, rfl⟩) | (go_at_call 60; (with_reducible refine (HD.out _).mono ?_); rintro e w' ⟨rfl, rfl⟩))
          go_ret
          exact ⟨ret_int (by rw [HN.out, E.out]), rfl⟩
        · have R := Lib.hid (R.out rfl)
          clear E
          go_wp2_with (first | (go_at_call 49; (with_reducible refine (HL.out _).mono ?_); rintro e w' ⟨rfl, rfl⟩) | (go_at_call 60; (with_reducible refine (HD.out _).mono ?_); rintro e w' ⟨rfl, rfl⟩))
          go_round
          case rel => simpa using R.out
          case measure => simp [intOf]; omega
      · have R := Lib.hid (R.out rfl)
        clear E
        go_wp2_with (first | (go_at_call 49; (with_reducible refine (HL.out _).mono ?_); rintro e w' ⟨rfl, rfl⟩) | (go_at_call 60; (with_reducible refine (HD.out _).mono ?_); rintro e w' ⟨rfl, rfl⟩))
        go_round
        case rel => simpa using R.out
        case measure => simp [intOf]; omega
    · have hke : k = s.size := by omega
      rw [List.drop_eq_nil_of_le (by rw [size_len]; omega), nameN] at hn
      subst hke
      have E := Lib.hid (show N = s.size by omega)
      clear hn
      go_wp2
      go_ret
      exact ⟨ret_int (by rw [HN.out, E.out]), rfl⟩
end Go.Proofs.YtbmnngliapmgfaaGreatDoor
namespace Go.Proofs.YtbmnngliapmgfaaGreatDoor
open Go.RowKit
set_option linter.unusedVariables false
set_option linter.unusedSimpArgs false
/-- the panic of a text that is no expression. -/
def bad : List PanicEntry := [{ v := .iface 52 (.agg #[]), recovered := false }]
theorem is_asg (t : Bs) : isAsg t = (t == [61] || t == [42, 61] || t == [47, 61] || t == [37, 61] || t == [43, 61] || t == [45, 61] || t == [60, 60, 61] || t == [62, 62, 61] || t == [38, 61] || t == [94, 61] || t == [124, 61]) := by
  simp only [isAsg, assignL, List.contains_cons, List.contains_nil, Bool.or_false, Bool.or_assoc]
theorem isAssign_any (s : ByteArray) (w : World) :
    Calls Tryz.prog 35 #[.string s] w fun e w' => e = .returned (.bool (isAsg s.data.toList)) ∧ w' = w := by
  have HA := Lib.hid (is_asg s.data.toList)
  go_enter Tryz.func35, Tryz.ntmps35
  go_wp2
  all_goals
    go_ret
    exact ⟨ret_bool (by rw [HA.out]; rw [← Lib.toList_data]; simp_all), rfl⟩
theorem is_sgn (t : Bs) : isSgn t = (t == [63] || t == [58] || t == [124, 124] || t == [38, 38] || t == [124] || t == [94] || t == [38] || t == [61, 61] || t == [33, 61] || t == [60] || t == [60, 61] || t == [62] || t == [62, 61] || t == [60, 60] || t == [62, 62] || t == [43] || t == [45] || t == [42] || t == [47] || t == [37] || t == [126] || t == [33] || t == [40] || t == [41] || isAsg t) := by
  simp only [isSgn, signL, List.contains_cons, List.contains_nil, Bool.or_false, Bool.or_assoc]
set_option maxHeartbeats 1000000 in
theorem isSign_any (s : ByteArray) (w : World) :
    Calls Tryz.prog 63 #[.string s] w fun e w' => e = .returned (.bool (isSgn s.data.toList)) ∧ w' = w := by
  have HA := Lib.hid (is_sgn s.data.toList)
  go_enter Tryz.func63, Tryz.ntmps63
  go_wp2_with (go_at_call 35; refine (isAssign_any s _).mono ?_; rintro e w' ⟨rfl, rfl⟩)
  all_goals
    go_ret
    exact ⟨ret_bool (by rw [HA.out]; rw [← Lib.toList_data]; simp_all), rfl⟩
theorem isSign_at (s : ByteArray) (b : Bool) (h : isSgn s.data.toList = b) (w : World) :
    Calls Tryz.prog 63 #[.string s] w fun e w' => e = .returned (.bool b) ∧ w' = w := by rw [← h]; exact isSign_any s w
/-- no longer sign than k bytes. -/
def noSgn (t : Bs) (k : Nat) : Prop := ∀ j, k < j → j ≤ 3 → j ≤ t.length → isSgn (t.take j) = false
theorem sgn_hit {t : Bs} {k : Nat} (h0 : 0 < k) (h3 : k ≤ 3) (hl : k ≤ t.length) (hs : isSgn (t.take k) = true) (hn : noSgn t k) : sgnN t = some k := by
  have hk : k = 1 ∨ k = 2 ∨ k = 3 := by omega
  unfold sgnN
  rcases hk with rfl | rfl | rfl
  · rw [if_neg (fun h => by have := hn 3 (by omega) (by omega) h.1; rw [h.2] at this; cases this), if_neg (fun h => by have := hn 2 (by omega) (by omega) h.1; rw [h.2] at this; cases this), if_pos ⟨hl, hs⟩]
  · rw [if_neg (fun h => by have := hn 3 (by omega) (by omega) h.1; rw [h.2] at this; cases this), if_pos ⟨hl, hs⟩]
  · rw [if_pos ⟨hl, hs⟩]
theorem sgn_none {t : Bs} (hn : noSgn t 0) : sgnN t = none := by
  unfold sgnN
  rw [if_neg (fun h => by have := hn 3 (by omega) (by omega) h.1; rw [h.2] at this; cases this), if_neg (fun h => by have := hn 2 (by omega) (by omega) h.1; rw [h.2] at this; cases this), if_neg (fun h => by have := hn 1 (by omega) (by omega) h.1; rw [h.2] at this; cases this)]
/-- what a call leaves that answers a number or finds no expression. -/
def numPost (r : Option Nat) (w : World) (e : Ending) (w' : World) : Prop := match r with
  | some k => e = .returned (.int .i64 (k : Nat)) ∧ w' = w
  | none => e = .panicked bad ∧ w' = w
theorem signSize_any (s : ByteArray) (hs : s.size ≤ maxLen) (h0 : 0 < s.size) (w : World) :
    Calls Tryz.prog 48 #[.string s] w (numPost (sgnN s.data.toList) w) := by
  unfold maxLen at hs
  have hl := size_len s
  obtain ⟨m, hm, hm3, hms⟩ : ∃ m : Nat, (m : Int) = min 3 (s.size : Int) ∧ m ≤ 3 ∧ m ≤ s.size ∧ (3 ≤ s.size → m = 3) ∧ (s.size < 3 → m = s.size) := by
    by_cases h : 3 ≤ s.size
    · exact ⟨3, by omega, by omega, by omega, fun _ => rfl, fun h => by omega⟩
    · exact ⟨s.size, by omega, by omega, by omega, fun h => by omega, fun _ => rfl⟩
  have hst : noSgn s.data.toList m := by
    intro j h1 h2 h3
    rw [hl] at h3
    omega
  have HS := Lib.hid hst
  have HM := Lib.hid hm
  clear hst hm
  go_enter Tryz.func48, Tryz.ntmps48
  go_wp2
  go_loop [3] (fun v => ∃ k : Nat, v = .int .i64 k ∧ k ≤ 3 ∧ k ≤ s.size ∧ noSgn s.data.toList k) (fun v => (intOf v).toNat)
  case atStart => exact ⟨m, by rw [HM.out], hm3, hms.1, HS.out⟩
  case round =>
    obtain ⟨k, rfl, h3, hk, hn⟩ := hrel
    clear hms
    by_cases hk0 : k = 0
    · subst hk0
      have E := Lib.hid (sgn_none hn)
      clear hn HS
      go_wp2
      refine ⟨rfl, ?_⟩
      unfold numPost
      rw [E.out]
      exact ⟨rfl, rfl⟩
    · cases hb : isSgn (s.data.toList.take k)
      · have hx : isSgn (s.extract 0 k).data.toList = false := by rw [extract_mid, List.drop_zero, Nat.sub_zero]; exact hb
        have R := Lib.hid (show noSgn s.data.toList (k - 1) from fun j h1 h2 h3 => by
          by_cases e : j = k
          · rw [e]; exact hb
          · exact hn j (by omega) h2 h3)
        have HC := Lib.hid (isSign_at _ _ hx)
        clear hb hn hx HS
        obtain ⟨q, rfl⟩ : ∃ q, k = q + 1 := ⟨k - 1, by omega⟩
        go_wp2_with (go_at_call 63; (with_reducible refine (HC.out _).mono ?_); rintro e w' ⟨rfl, rfl⟩)
        go_round
        case rel => exact ⟨q, by go_num, by omega, by omega, R.out⟩
        case measure => simp [intOf]
      · have hx : isSgn (s.extract 0 k).data.toList = true := by rw [extract_mid, List.drop_zero, Nat.sub_zero]; exact hb
        have E := Lib.hid (sgn_hit (by omega) h3 (by rw [hl]; exact hk) hb hn)
        have HC := Lib.hid (isSign_at _ _ hx)
        clear hb hn hx HS
        go_wp2_with (go_at_call 63; (with_reducible refine (HC.out _).mono ?_); rintro e w' ⟨rfl, rfl⟩)
        go_ret
        unfold numPost
        rw [E.out]
        exact ⟨rfl, rfl⟩
theorem tokenSize_any (s : ByteArray) (hs : s.size ≤ maxLen) (h0 : 0 < s.size) (w : World) :
    Calls Tryz.prog 31 #[.string s] w (numPost (tokN s.data.toList) w) := by
  have HC := Lib.hid (isConstant_any s h0)
  have HN := Lib.hid (isName_any s h0)
  have HV := Lib.hid (constant_any s hs)
  have HZ := Lib.hid (nameSize_any s hs)
  have HG := Lib.hid (signSize_any s hs h0)
  unfold tokN
  cases hc : isC s.data.toList
  · cases hn : isN s.data.toList
    · rw [if_neg (by decide), if_neg (by decide)]
      rw [hc] at HC
      rw [hn] at HN
      clear hc hn
      go_enter Tryz.func31, Tryz.ntmps31
      cases hg : sgnN s.data.toList with
      | none =>
        rw [hg] at HG
        clear hg
        go_wp2_with (first | (go_at_call 45; (with_reducible refine (HC.out _).mono ?_); rintro e w' ⟨rfl, rfl⟩) | (go_at_call 34; (with_reducible refine (HN.out _).mono ?_); rintro e w' ⟨rfl, rfl⟩) | (go_at_call 48; (with_reducible refine (HG.out _).mono ?_); rintro e w' ⟨rfl, rfl⟩))
        exact ⟨rfl, rfl, rfl⟩
      | some k =>
        rw [hg] at HG
        clear hg
        go_wp2_with (first | (go_at_call 45; (with_reducible refine (HC.out _).mono ?_); rintro e w' ⟨rfl, rfl⟩) | (go_at_call 34; (with_reducible refine (HN.out _).mono ?_); rintro e w' ⟨rfl, rfl⟩) | (go_at_call 48; (with_reducible refine (HG.out _).mono ?_); rintro e w' ⟨rfl, rfl⟩))
        go_ret
        exact ⟨rfl, rfl⟩
    · rw [if_neg (by decide), if_pos rfl]
      rw [hc] at HC
      rw [hn] at HN
      clear hc hn HG
      go_enter Tryz.func31, Tryz.ntmps31
      go_wp2_with (first | (go_at_call 45; (with_reducible refine (HC.out _).mono ?_); rintro e w' ⟨rfl, rfl⟩) | (go_at_call 34; (with_reducible refine (HN.out _).mono ?_); rintro e w' ⟨rfl, rfl⟩) | (go_at_call 47; (with_reducible refine (HZ.out _).mono ?_); rintro e w' ⟨rfl, rfl⟩))
      go_ret
      exact ⟨rfl, rfl⟩
  · rw [if_pos rfl]
    rw [hc] at HC
    clear hc HG HN
    go_enter Tryz.func31, Tryz.ntmps31
    go_wp2_with (first | (go_at_call 45; (with_reducible refine (HC.out _).mono ?_); rintro e w' ⟨rfl, rfl⟩) | (go_at_call 46; (with_reducible refine (HV.out _).mono ?_); rintro e w' ⟨rfl, rfl⟩))
    go_ret
    exact ⟨rfl, rfl⟩
end Go.Proofs.YtbmnngliapmgfaaGreatDoor
