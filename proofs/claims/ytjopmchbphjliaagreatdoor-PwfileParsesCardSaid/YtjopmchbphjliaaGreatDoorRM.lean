/- Contract of the document's Right of fields. -/
import Derived.Test.YtjopmchbphjliaaGreatDoorMx
namespace Go.Proofs.YtjopmchbphjliaaGreatDoor.Mx
open Go.RowKit

def digV (c : UInt8) : Nat := (digN c).getD 0
def digI (c : UInt8) : Int := if digB c = true then (digV c : Int) else -1
theorem digit_any (c : UInt8) (w : World) :
    Calls Tryz.prog 76 #[.int .u8 (c.toNat : Int)] w fun e w' => e = .returned (.int .i64 (digI c)) ∧ w = w' := by
  by_cases h1 : 48 ≤ c.toNat ∧ c.toNat ≤ 57
  · have H := Lib.hid (show digI c = (c.toNat : Int) - 48 by unfold digI digB digV; rw [dig_lo c h1.1 h1.2]; simp; omega)
    go_enter Tryz.func76, Tryz.ntmps76
    go_wp2
    all_goals (go_ret; exact ⟨ret_val (congrArg (Value.int .i64) (by rw [H.out]; try omega)), rfl⟩)
  · by_cases h2 : 97 ≤ c.toNat ∧ c.toNat ≤ 102
    · have H := Lib.hid (show digI c = (c.toNat : Int) - 97 + 10 by unfold digI digB digV; rw [dig_hi c h2.1 h2.2]; simp; omega)
      go_enter Tryz.func76, Tryz.ntmps76
      go_wp2
      all_goals (go_ret; exact ⟨ret_val (congrArg (Value.int .i64) (by rw [H.out]; try omega)), rfl⟩)
    · have H := Lib.hid (show digI c = -1 by unfold digI digB digV; rw [dig_no c h1 h2]; simp)
      go_enter Tryz.func76, Tryz.ntmps76
      go_wp2
      all_goals (go_ret; exact ⟨ret_val (congrArg (Value.int .i64) (by rw [H.out]; try omega)), rfl⟩)

theorem digI_neg (c : UInt8) : (decide (digI c < 0)) = !digB c := by
  unfold digI
  cases h : digB c
  · rfl
  · rw [if_pos rfl, decide_eq_false (by omega)]; rfl
set_option maxHeartbeats 1600000 in
theorem refForm_any (s : ByteArray) (w : World) :
    Calls Tryz.prog 61 #[.string s] w fun e w' => e = .returned (.bool (formB s.data.toList)) ∧ w = w' := by
  have hlen : s.data.toList.length = s.size := by simp
  by_cases h21 : s.size = 21
  · have Hl := Lib.hid (show s.data.toList.length = 21 by omega)
    clear hlen
    have hg := getD_eq s 4 (by omega)
    by_cases h36 : s[4]'(by omega) = 36
    · have t : ((((s[4]'(by omega)).toNat : Int) != 36) : Bool) = false := u8_nn _ _ h36
      have H4 := Lib.hid (show okAt s.data.toList 4 = true by unfold okAt; rw [if_pos rfl, hg, h36]; rfl)
      clear hg h36
      go_enter Tryz.func61, Tryz.ntmps61
      go_wp2
      go_loop [3] (fun i => okRel s i) (fun i => 21 - (intOf i).toNat)
      case atStart => exact ⟨0, by decide, rfl, fun j h => absurd h (Nat.not_lt_zero _)⟩
      case round =>
        obtain ⟨k, hk, rfl, hok⟩ := hrel
        have Hok := Lib.hid hok
        clear hok
        by_cases hlt : k < 21
        · have hg := getD_eq s k (by omega)
          by_cases h4 : k = 4
          · subst h4
            have Hs := Lib.hid (ok_step s 4 Hok.out H4.out)
            clear hg
            go_wp2
            go_round
            case rel => exact ⟨5, by decide, rfl, Hs.out⟩
            case measure => decide
          · have h4' : (((k : Int) != 4) : Bool) = true := by rw [bne_iff_ne]; omega
            cases hd : digB (s[k]'(by omega))
            · have Hr := Lib.hid (form_no s.data.toList k hlt (by unfold okAt; rw [if_neg h4, hg, hd]))
              have Hd := Lib.hid (show decide (digI (s[k]'(by omega)) < 0) = true by rw [digI_neg, hd]; rfl)
              have hd0 : digI (s[k]'(by omega)) < 0 := of_decide_eq_true Hd.out
              clear hg hd
              go_wp2_with (go_at_call 76; refine (digit_any _ _).mono ?_; rintro e w' ⟨rfl, rfl⟩)
              go_ret
              exact ⟨ret_bool Hr.out.symm, rfl⟩
            · have Hs := Lib.hid (ok_step s k Hok.out (by unfold okAt; rw [if_neg h4, hg, hd]))
              have hd0 : ¬ digI (s[k]'(by omega)) < 0 := by
                have := digI_neg (s[k]'(by omega)); rw [hd] at this; exact of_decide_eq_false this
              clear hg hd
              go_wp2_with (go_at_call 76; refine (digit_any _ _).mono ?_; rintro e w' ⟨rfl, rfl⟩)
              go_round
              case rel => exact ⟨k + 1, hlt, by go_num, Hs.out⟩
              case measure => simp [intOf]; omega
        · obtain rfl : k = 21 := by omega
          have Hr := Lib.hid ((form_iff _).2 ⟨Hl.out, Hok.out⟩)
          go_wp2
          go_ret
          exact ⟨ret_bool Hr.out.symm, rfl⟩
    · have t : ((((s[4]'(by omega)).toNat : Int) != 36) : Bool) = true := u8_ne _ _ h36
      have Hr := Lib.hid (form_no s.data.toList 4 (by decide) (by unfold okAt; rw [if_pos rfl, hg]; simpa using h36))
      clear hg h36
      go_enter Tryz.func61, Tryz.ntmps61
      go_wp2
      go_ret
      exact ⟨ret_bool Hr.out.symm, rfl⟩
  · have Hr := Lib.hid (show formB s.data.toList = false by rw [Bool.eq_false_iff]; intro h; have := ((form_iff _).1 h).1; omega)
    have h21' : (((s.size : Int) != 21) : Bool) = true := by rw [bne_iff_ne]; omega
    clear hlen
    go_enter Tryz.func61, Tryz.ntmps61
    go_wp2
    go_ret
    exact ⟨ret_bool Hr.out.symm, rfl⟩
theorem refRight_any (s : ByteArray) (w : World) :
    Calls Tryz.prog 45 #[.string s] w fun e w' => e = .returned (.bool (rightS s.data.toList)) ∧ w = w' := by
  by_cases h : s.toList = []
  · have Hr := Lib.hid (right_e h)
    have hE := isE_t h
    go_enter Tryz.func45, Tryz.ntmps45
    go_wp2
    go_ret
    exact ⟨ret_bool Hr.out.symm, rfl⟩
  · by_cases h2 : s.toList = [42]
    · have Hr := Lib.hid (right_s h2)
      have hE := isE_f h
      have hS := isS_t h2
      clear h h2
      go_enter Tryz.func45, Tryz.ntmps45
      go_wp2
      go_ret
      exact ⟨ret_bool (by rw [Hr.out]), rfl⟩
    · have Hr := Lib.hid (right_f h h2)
      have hE := isE_f h
      have hS := isS_f h2
      clear h h2
      go_enter Tryz.func45, Tryz.ntmps45
      go_wp2_with (go_at_call 61; refine (refForm_any s _).mono ?_; rintro e w' ⟨rfl, rfl⟩)
      go_ret
      exact ⟨ret_bool (by rw [Hr.out]), rfl⟩
end Go.Proofs.YtjopmchbphjliaaGreatDoor.Mx
