/- Contracts of isHexDigit, hasFieldForm and the document's answer. -/
import Derived.Test.YtikmdjepohmonaaDoorW1
namespace Go.Proofs.YtikmdjepohmonaaDoor
open Go.RowKit

theorem hex_any (c : UInt8) (w : World) :
    Calls Tryd.prog 24 #[.int .u8 (c.toNat : Int)] w fun e w' => e = .returned (.bool (digB c)) ∧ w = w' := by
  by_cases h1 : 48 ≤ c.toNat ∧ c.toNat ≤ 57
  · have H := Lib.hid (show digB c = true by unfold digB; rw [dig_lo c h1.1 h1.2]; rfl)
    go_enter Tryd.func24, Tryd.ntmps24
    go_wp2
    all_goals (go_ret; exact ⟨ret_bool (by rw [H.out]; try simp; try omega), rfl⟩)
  · by_cases h2 : 97 ≤ c.toNat ∧ c.toNat ≤ 102
    · have H := Lib.hid (show digB c = true by unfold digB; rw [dig_hi c h2.1 h2.2]; rfl)
      go_enter Tryd.func24, Tryd.ntmps24
      go_wp2
      all_goals (go_ret; exact ⟨ret_bool (by rw [H.out]; try simp; try omega), rfl⟩)
    · have H := Lib.hid (show digB c = false by unfold digB; rw [dig_no c h1 h2]; rfl)
      go_enter Tryd.func24, Tryd.ntmps24
      go_wp2
      all_goals (go_ret; exact ⟨ret_bool (by rw [H.out]; try simp; try omega), rfl⟩)
theorem digit_any (c : UInt8) (w : World) :
    Calls Tryd.prog 23 #[.int .u8 (c.toNat : Int)] w fun e w' => e = .returned (.int .i64 (digI c)) ∧ w = w' := by
  by_cases h1 : 48 ≤ c.toNat ∧ c.toNat ≤ 57
  · have H := Lib.hid (show digI c = (c.toNat : Int) - 48 by unfold digI digB digV; rw [dig_lo c h1.1 h1.2]; simp; omega)
    go_enter Tryd.func23, Tryd.ntmps23
    go_wp2
    all_goals (go_ret; exact ⟨ret_val (congrArg (Value.int .i64) (by rw [H.out]; try omega)), rfl⟩)
  · by_cases h2 : 97 ≤ c.toNat ∧ c.toNat ≤ 102
    · have H := Lib.hid (show digI c = (c.toNat : Int) - 97 + 10 by unfold digI digB digV; rw [dig_hi c h2.1 h2.2]; simp; omega)
      go_enter Tryd.func23, Tryd.ntmps23
      go_wp2
      all_goals (go_ret; exact ⟨ret_val (congrArg (Value.int .i64) (by rw [H.out]; try omega)), rfl⟩)
    · have H := Lib.hid (show digI c = -1 by unfold digI digB digV; rw [dig_no c h1 h2]; simp)
      go_enter Tryd.func23, Tryd.ntmps23
      go_wp2
      all_goals (go_ret; exact ⟨ret_val (congrArg (Value.int .i64) (by rw [H.out]; try omega)), rfl⟩)

theorem getD_eq (s : ByteArray) (k : Nat) (h : k < s.size) : s.data.toList.getD k 0 = s[k] := by
  rw [List.getD_eq_getElem?_getD, List.getElem?_eq_getElem (by simpa using h)]; rfl
theorem u8_true (c d : UInt8) (h : c = d) : (((c.toNat : Int) == (d.toNat : Int)) : Bool) = true := by rw [h]; simp
theorem u8_false (c d : UInt8) (h : ¬ c = d) : (((c.toNat : Int) == (d.toNat : Int)) : Bool) = false := by
  rw [beq_eq_false_iff_ne]; intro e; exact h (UInt8.toNat_inj.1 (by omega))
theorem u8_ne (c d : UInt8) (h : ¬ c = d) : (((c.toNat : Int) != (d.toNat : Int)) : Bool) = true := by
  unfold bne; rw [u8_false c d h]; rfl
theorem u8_nn (c d : UInt8) (h : c = d) : (((c.toNat : Int) != (d.toNat : Int)) : Bool) = false := by
  unfold bne; rw [u8_true c d h]; rfl

def okRel (s : ByteArray) (i : Value) : Prop := ∃ k : Nat, k ≤ 21 ∧ i = .int .i64 k ∧ ∀ j, j < k → okAt s.data.toList j = true
theorem ok_step (s : ByteArray) (k : Nat) (h : ∀ j, j < k → okAt s.data.toList j = true) (hk : okAt s.data.toList k = true) : ∀ j, j < k + 1 → okAt s.data.toList j = true := by
  intro j hj
  by_cases e : j = k
  · rw [e]; exact hk
  · exact h j (by omega)
set_option maxHeartbeats 1600000 in
theorem form_any (s : ByteArray) (w : World) :
    Calls Tryd.prog 20 #[.string s] w fun e w' => e = .returned (.bool (formB s.data.toList)) ∧ w = w' := by
  have hlen : s.data.toList.length = s.size := by simp
  by_cases h21 : s.size = 21
  · have Hl := Lib.hid (show s.data.toList.length = 21 by omega)
    clear hlen
    go_enter Tryd.func20, Tryd.ntmps20
    go_wp2
    go_loop [9] (fun i => okRel s i) (fun i => 21 - (intOf i).toNat)
    case atStart => exact ⟨0, by decide, rfl, fun j h => absurd h (Nat.not_lt_zero _)⟩
    case round =>
      obtain ⟨k, hk, rfl, hok⟩ := hrel
      have Hok := Lib.hid hok
      clear hok
      by_cases hlt : k < 21
      · have hg := getD_eq s k (by omega)
        by_cases h4 : k = 4
        · subst h4
          by_cases h36 : s[4]'(by omega) = 36
          · have t : ((((s[4]'(by omega)).toNat : Int) != 36) : Bool) = false := u8_nn _ _ h36
            have Hs := Lib.hid (ok_step s 4 Hok.out (by unfold okAt; rw [if_pos rfl, hg, h36]; rfl))
            clear hg h36
            go_wp2
            go_round
            case rel => exact ⟨5, by decide, rfl, Hs.out⟩
            case measure => decide
          · have t : ((((s[4]'(by omega)).toNat : Int) != 36) : Bool) = true := u8_ne _ _ h36
            have Hr := Lib.hid (form_no s.data.toList 4 hlt (by unfold okAt; rw [if_pos rfl, hg]; simpa using h36))
            clear hg h36
            go_wp2
            go_ret
            exact ⟨ret_bool Hr.out.symm, rfl⟩
        · have h4' : (((k : Int) == 4) : Bool) = false := by rw [beq_eq_false_iff_ne]; omega
          cases hd : digB (s[k]'(by omega))
          · have Hr := Lib.hid (form_no s.data.toList k hlt (by unfold okAt; rw [if_neg h4, hg, hd]))
            have Hd := Lib.hid hd
            clear hg hd
            go_wp2_with (go_at_call 24; refine (hex_any _ _).mono ?_; rintro e w' ⟨rfl, rfl⟩; rw [Hd.out])
            go_ret
            exact ⟨ret_bool Hr.out.symm, rfl⟩
          · have Hs := Lib.hid (ok_step s k Hok.out (by unfold okAt; rw [if_neg h4, hg, hd]))
            have Hd := Lib.hid hd
            clear hg hd
            go_wp2_with (go_at_call 24; refine (hex_any _ _).mono ?_; rintro e w' ⟨rfl, rfl⟩; rw [Hd.out])
            go_round
            case rel => exact ⟨k + 1, hlt, by go_num, Hs.out⟩
            case measure => simp [intOf]; omega
      · obtain rfl : k = 21 := by omega
        have Hr := Lib.hid ((form_iff _).2 ⟨Hl.out, Hok.out⟩)
        go_wp2
        go_ret
        exact ⟨ret_bool Hr.out.symm, rfl⟩
  · have Hr := Lib.hid (show formB s.data.toList = false by rw [Bool.eq_false_iff]; intro h; have := ((form_iff _).1 h).1; omega)
    have h21' : (((s.size : Int) != 21) : Bool) = true := by rw [bne_iff_ne]; omega
    clear hlen
    go_enter Tryd.func20, Tryd.ntmps20
    go_wp2
    go_ret
    exact ⟨ret_bool Hr.out.symm, rfl⟩
theorem digI_neg (c : UInt8) : (decide (digI c < 0)) = !digB c := by
  unfold digI
  cases h : digB c
  · rfl
  · rw [if_pos rfl, decide_eq_false (by omega)]; rfl
set_option maxHeartbeats 1600000 in
theorem refForm_any (s : ByteArray) (w : World) :
    Calls Tryd.prog 21 #[.string s] w fun e w' => e = .returned (.bool (formB s.data.toList)) ∧ w = w' := by
  have hlen : s.data.toList.length = s.size := by simp
  by_cases h21 : s.size = 21
  · have Hl := Lib.hid (show s.data.toList.length = 21 by omega)
    clear hlen
    have hg := getD_eq s 4 (by omega)
    by_cases h36 : s[4]'(by omega) = 36
    · have t : ((((s[4]'(by omega)).toNat : Int) != 36) : Bool) = false := u8_nn _ _ h36
      have H4 := Lib.hid (show okAt s.data.toList 4 = true by unfold okAt; rw [if_pos rfl, hg, h36]; rfl)
      clear hg h36
      go_enter Tryd.func21, Tryd.ntmps21
      go_wp2
      go_loop [3] (fun i => okRel s i) (fun i => 21 - (intOf i).toNat)
      case atStart => exact ⟨0, by decide, rfl, fun j h => absurd h (Nat.not_lt_zero _)⟩
      case round =>
        obtain ⟨k, hk, rfl, hok⟩ := hrel
        have Hok := Lib.hid hok
        clear hok
        by_cases hlt : k < 21
        · have hg := getD_eq s k (by omega)
          by_cases h4 : k = 4
          · subst h4
            have Hs := Lib.hid (ok_step s 4 Hok.out H4.out)
            clear hg
            go_wp2
            go_round
            case rel => exact ⟨5, by decide, rfl, Hs.out⟩
            case measure => decide
          · have h4' : (((k : Int) != 4) : Bool) = true := by rw [bne_iff_ne]; omega
            cases hd : digB (s[k]'(by omega))
            · have Hr := Lib.hid (form_no s.data.toList k hlt (by unfold okAt; rw [if_neg h4, hg, hd]))
              have Hd := Lib.hid (show decide (digI (s[k]'(by omega)) < 0) = true by rw [digI_neg, hd]; rfl)
              have hd0 : digI (s[k]'(by omega)) < 0 := of_decide_eq_true Hd.out
              clear hg hd
              go_wp2_with (go_at_call 23; refine (digit_any _ _).mono ?_; rintro e w' ⟨rfl, rfl⟩)
              go_ret
              exact ⟨ret_bool Hr.out.symm, rfl⟩
            · have Hs := Lib.hid (ok_step s k Hok.out (by unfold okAt; rw [if_neg h4, hg, hd]))
              have hd0 : ¬ digI (s[k]'(by omega)) < 0 := by
                have := digI_neg (s[k]'(by omega)); rw [hd] at this; exact of_decide_eq_false this
              clear hg hd
              go_wp2_with (go_at_call 23; refine (digit_any _ _).mono ?_; rintro e w' ⟨rfl, rfl⟩)
              go_round
              case rel => exact ⟨k + 1, hlt, by go_num, Hs.out⟩
              case measure => simp [intOf]; omega
        · obtain rfl : k = 21 := by omega
          have Hr := Lib.hid ((form_iff _).2 ⟨Hl.out, Hok.out⟩)
          go_wp2
          go_ret
          exact ⟨ret_bool Hr.out.symm, rfl⟩
    · have t : ((((s[4]'(by omega)).toNat : Int) != 36) : Bool) = true := u8_ne _ _ h36
      have Hr := Lib.hid (form_no s.data.toList 4 (by decide) (by unfold okAt; rw [if_pos rfl, hg]; simpa using h36))
      clear hg h36
      go_enter Tryd.func21, Tryd.ntmps21
      go_wp2
      go_ret
      exact ⟨ret_bool Hr.out.symm, rfl⟩
  · have Hr := Lib.hid (show formB s.data.toList = false by rw [Bool.eq_false_iff]; intro h; have := ((form_iff _).1 h).1; omega)
    have h21' : (((s.size : Int) != 21) : Bool) = true := by rw [bne_iff_ne]; omega
    clear hlen
    go_enter Tryd.func21, Tryd.ntmps21
    go_wp2
    go_ret
    exact ⟨ret_bool Hr.out.symm, rfl⟩
end Go.Proofs.YtikmdjepohmonaaDoor
