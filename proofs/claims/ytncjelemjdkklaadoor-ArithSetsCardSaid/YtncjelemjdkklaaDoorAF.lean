/- Contracts of the program's isAssign, isSign, signSize, tokenSize. -/
import Derived.Test.YtncjelemjdkklaaDoorAE
namespace Go.Proofs.YtncjelemjdkklaaDoor
open Go.RowKit
set_option linter.unusedVariables false
set_option linter.unusedSimpArgs false
/-- the panic of a text that is no expression. -/
def bad : List PanicEntry := [{ v := .iface 49 (.agg #[]), recovered := false }]
theorem is_asg (t : Bs) : isAsg t = (t == [61] || t == [42, 61] || t == [47, 61] || t == [37, 61] || t == [43, 61] || t == [45, 61] || t == [60, 60, 61] || t == [62, 62, 61] || t == [38, 61] || t == [94, 61] || t == [124, 61]) := by
  simp only [isAsg, assignL, List.contains_cons, List.contains_nil, Bool.or_false, Bool.or_assoc]
theorem isAssign_any (s : ByteArray) (w : World) :
    Calls Tryd.prog 23 #[.string s] w fun e w' => e = .returned (.bool (isAsg s.data.toList)) ∧ w' = w := by
  have HA := Lib.hid (is_asg s.data.toList)
  go_enter Tryd.func23, Tryd.ntmps23
  go_wp2
  all_goals
    go_ret
    exact ⟨ret_bool (by rw [HA.out]; rw [← Lib.toList_data]; simp_all), rfl⟩
theorem is_sgn (t : Bs) : isSgn t = (t == [63] || t == [58] || t == [124, 124] || t == [38, 38] || t == [124] || t == [94] || t == [38] || t == [61, 61] || t == [33, 61] || t == [60] || t == [60, 61] || t == [62] || t == [62, 61] || t == [60, 60] || t == [62, 62] || t == [43] || t == [45] || t == [42] || t == [47] || t == [37] || t == [126] || t == [33] || t == [40] || t == [41] || isAsg t) := by
  simp only [isSgn, signL, List.contains_cons, List.contains_nil, Bool.or_false, Bool.or_assoc]
set_option maxHeartbeats 1000000 in
theorem isSign_any (s : ByteArray) (w : World) :
    Calls Tryd.prog 49 #[.string s] w fun e w' => e = .returned (.bool (isSgn s.data.toList)) ∧ w' = w := by
  have HA := Lib.hid (is_sgn s.data.toList)
  go_enter Tryd.func49, Tryd.ntmps49
  go_wp2_with (go_at_call 23; refine (isAssign_any s _).mono ?_; rintro e w' ⟨rfl, rfl⟩)
  all_goals
    go_ret
    exact ⟨ret_bool (by rw [HA.out]; rw [← Lib.toList_data]; simp_all), rfl⟩
theorem isSign_at (s : ByteArray) (b : Bool) (h : isSgn s.data.toList = b) (w : World) :
    Calls Tryd.prog 49 #[.string s] w fun e w' => e = .returned (.bool b) ∧ w' = w := by rw [← h]; exact isSign_any s w
/-- no longer sign than k bytes. -/
def noSgn (t : Bs) (k : Nat) : Prop := ∀ j, k < j → j ≤ 3 → j ≤ t.length → isSgn (t.take j) = false
theorem sgn_hit {t : Bs} {k : Nat} (h0 : 0 < k) (h3 : k ≤ 3) (hl : k ≤ t.length) (hs : isSgn (t.take k) = true) (hn : noSgn t k) : sgnN t = some k := by
  have hk : k = 1 ∨ k = 2 ∨ k = 3 := by omega
  unfold sgnN
  rcases hk with rfl | rfl | rfl
  · rw [if_neg (fun h => by have := hn 3 (by omega) (by omega) h.1; rw [h.2] at this; cases this), if_neg (fun h => by have := hn 2 (by omega) (by omega) h.1; rw [h.2] at this; cases this), if_pos ⟨hl, hs⟩]
  · rw [if_neg (fun h => by have := hn 3 (by omega) (by omega) h.1; rw [h.2] at this; cases this), if_pos ⟨hl, hs⟩]
  · rw [if_pos ⟨hl, hs⟩]
theorem sgn_none {t : Bs} (hn : noSgn t 0) : sgnN t = none := by
  unfold sgnN
  rw [if_neg (fun h => by have := hn 3 (by omega) (by omega) h.1; rw [h.2] at this; cases this), if_neg (fun h => by have := hn 2 (by omega) (by omega) h.1; rw [h.2] at this; cases this), if_neg (fun h => by have := hn 1 (by omega) (by omega) h.1; rw [h.2] at this; cases this)]
/-- what a call leaves that answers a number or finds no expression. -/
def numPost (r : Option Nat) (w : World) (e : Ending) (w' : World) : Prop := match r with
  | some k => e = .returned (.int .i64 (k : Nat)) ∧ w' = w
  | none => e = .panicked bad ∧ w' = w
theorem signSize_any (s : ByteArray) (hs : s.size ≤ maxLen) (h0 : 0 < s.size) (w : World) :
    Calls Tryd.prog 34 #[.string s] w (numPost (sgnN s.data.toList) w) := by
  unfold maxLen at hs
  have hl := size_len s
  obtain ⟨m, hm, hm3, hms⟩ : ∃ m : Nat, (m : Int) = min 3 (s.size : Int) ∧ m ≤ 3 ∧ m ≤ s.size ∧ (3 ≤ s.size → m = 3) ∧ (s.size < 3 → m = s.size) := by
    by_cases h : 3 ≤ s.size
    · exact ⟨3, by omega, by omega, by omega, fun _ => rfl, fun h => by omega⟩
    · exact ⟨s.size, by omega, by omega, by omega, fun h => by omega, fun _ => rfl⟩
  have hst : noSgn s.data.toList m := by
    intro j h1 h2 h3
    rw [hl] at h3
    omega
  have HS := Lib.hid hst
  have HM := Lib.hid hm
  clear hst hm
  go_enter Tryd.func34, Tryd.ntmps34
  go_wp2
  go_loop [3] (fun v => ∃ k : Nat, v = .int .i64 k ∧ k ≤ 3 ∧ k ≤ s.size ∧ noSgn s.data.toList k) (fun v => (intOf v).toNat)
  case atStart => exact ⟨m, by rw [HM.out], hm3, hms.1, HS.out⟩
  case round =>
    obtain ⟨k, rfl, h3, hk, hn⟩ := hrel
    clear hms
    by_cases hk0 : k = 0
    · subst hk0
      have E := Lib.hid (sgn_none hn)
      clear hn HS
      go_wp2
      refine ⟨rfl, ?_⟩
      unfold numPost
      rw [E.out]
      exact ⟨rfl, rfl⟩
    · cases hb : isSgn (s.data.toList.take k)
      · have hx : isSgn (s.extract 0 k).data.toList = false := by rw [extract_mid, List.drop_zero, Nat.sub_zero]; exact hb
        have R := Lib.hid (show noSgn s.data.toList (k - 1) from fun j h1 h2 h3 => by
          by_cases e : j = k
          · rw [e]; exact hb
          · exact hn j (by omega) h2 h3)
        have HC := Lib.hid (isSign_at _ _ hx)
        clear hb hn hx HS
        obtain ⟨q, rfl⟩ : ∃ q, k = q + 1 := ⟨k - 1, by omega⟩
        go_wp2_with (go_at_call 49; (with_reducible refine (HC.out _).mono ?_); rintro e w' ⟨rfl, rfl⟩)
        go_round
        case rel => exact ⟨q, by go_num, by omega, by omega, R.out⟩
        case measure => simp [intOf]
      · have hx : isSgn (s.extract 0 k).data.toList = true := by rw [extract_mid, List.drop_zero, Nat.sub_zero]; exact hb
        have E := Lib.hid (sgn_hit (by omega) h3 (by rw [hl]; exact hk) hb hn)
        have HC := Lib.hid (isSign_at _ _ hx)
        clear hb hn hx HS
        go_wp2_with (go_at_call 49; (with_reducible refine (HC.out _).mono ?_); rintro e w' ⟨rfl, rfl⟩)
        go_ret
        unfold numPost
        rw [E.out]
        exact ⟨rfl, rfl⟩
theorem tokenSize_any (s : ByteArray) (hs : s.size ≤ maxLen) (h0 : 0 < s.size) (w : World) :
    Calls Tryd.prog 19 #[.string s] w (numPost (tokN s.data.toList) w) := by
  have HC := Lib.hid (isConstant_any s h0)
  have HN := Lib.hid (isName_any s h0)
  have HV := Lib.hid (constant_any s hs)
  have HZ := Lib.hid (nameSize_any s hs)
  have HG := Lib.hid (signSize_any s hs h0)
  unfold tokN
  cases hc : isC s.data.toList
  · cases hn : isN s.data.toList
    · rw [if_neg (by decide), if_neg (by decide)]
      rw [hc] at HC
      rw [hn] at HN
      clear hc hn
      go_enter Tryd.func19, Tryd.ntmps19
      cases hg : sgnN s.data.toList with
      | none =>
        rw [hg] at HG
        clear hg
        go_wp2_with (first | (go_at_call 31; (with_reducible refine (HC.out _).mono ?_); rintro e w' ⟨rfl, rfl⟩) | (go_at_call 22; (with_reducible refine (HN.out _).mono ?_); rintro e w' ⟨rfl, rfl⟩) | (go_at_call 34; (with_reducible refine (HG.out _).mono ?_); rintro e w' ⟨rfl, rfl⟩))
        exact ⟨rfl, rfl, rfl⟩
      | some k =>
        rw [hg] at HG
        clear hg
        go_wp2_with (first | (go_at_call 31; (with_reducible refine (HC.out _).mono ?_); rintro e w' ⟨rfl, rfl⟩) | (go_at_call 22; (with_reducible refine (HN.out _).mono ?_); rintro e w' ⟨rfl, rfl⟩) | (go_at_call 34; (with_reducible refine (HG.out _).mono ?_); rintro e w' ⟨rfl, rfl⟩))
        go_ret
        exact ⟨rfl, rfl⟩
    · rw [if_neg (by decide), if_pos rfl]
      rw [hc] at HC
      rw [hn] at HN
      clear hc hn HG
      go_enter Tryd.func19, Tryd.ntmps19
      go_wp2_with (first | (go_at_call 31; (with_reducible refine (HC.out _).mono ?_); rintro e w' ⟨rfl, rfl⟩) | (go_at_call 22; (with_reducible refine (HN.out _).mono ?_); rintro e w' ⟨rfl, rfl⟩) | (go_at_call 33; (with_reducible refine (HZ.out _).mono ?_); rintro e w' ⟨rfl, rfl⟩))
      go_ret
      exact ⟨rfl, rfl⟩
  · rw [if_pos rfl]
    rw [hc] at HC
    clear hc HG HN
    go_enter Tryd.func19, Tryd.ntmps19
    go_wp2_with (first | (go_at_call 31; (with_reducible refine (HC.out _).mono ?_); rintro e w' ⟨rfl, rfl⟩) | (go_at_call 32; (with_reducible refine (HV.out _).mono ?_); rintro e w' ⟨rfl, rfl⟩))
    go_ret
    exact ⟨rfl, rfl⟩
end Go.Proofs.YtncjelemjdkklaaDoor
