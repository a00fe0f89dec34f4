/- Right of package mix: which fields there may be. -/
import Derived.Test.YtjopmchbphjliaaGreatDoorB0
import Derived.Lib.Strings
namespace Go.Proofs.YtjopmchbphjliaaGreatDoor.Mx
open Go.RowKit

/-- a byte's number; none: it is no digit. -/
def digN (c : UInt8) : Option Nat :=
  if 48 ≤ c.toNat ∧ c.toNat ≤ 57 then some (c.toNat - 48) else if 97 ≤ c.toNat ∧ c.toNat ≤ 102 then some (c.toNat - 87) else none
def digB (c : UInt8) : Bool := (digN c).isSome
/-- does a text look like a field? -/
def okAt (l : List UInt8) (j : Nat) : Bool := if j = 4 then l.getD j 0 == 36 else digB (l.getD j 0)
def formB (l : List UInt8) : Bool := l.length == 21 && (List.range 21).all (okAt l)
def rightS (l : List UInt8) : Bool := l == [] || (l == [42] || formB l)
theorem form_iff (l : List UInt8) : formB l = true ↔ l.length = 21 ∧ ∀ j, j < 21 → okAt l j = true := by
  unfold formB
  rw [Bool.and_eq_true, beq_iff_eq, List.all_eq_true]
  simp only [List.mem_range]
theorem form_no (l : List UInt8) (j : Nat) (hj : j < 21) (h : okAt l j = false) : formB l = false := by
  rw [Bool.eq_false_iff]
  intro hf
  rw [(form_iff l).1 hf |>.2 j hj] at h
  cases h
theorem dig_lo (c : UInt8) (h : 48 ≤ c.toNat) (h2 : c.toNat ≤ 57) : digN c = some (c.toNat - 48) := by
  unfold digN; rw [if_pos ⟨h, h2⟩]
theorem dig_hi (c : UInt8) (h : 97 ≤ c.toNat) (h2 : c.toNat ≤ 102) : digN c = some (c.toNat - 87) := by
  unfold digN; rw [if_neg (by omega), if_pos ⟨h, h2⟩]
theorem dig_no (c : UInt8) (h : ¬ (48 ≤ c.toNat ∧ c.toNat ≤ 57)) (h2 : ¬ (97 ≤ c.toNat ∧ c.toNat ≤ 102)) : digN c = none := by
  unfold digN; rw [if_neg h, if_neg h2]
theorem hex_any (c : UInt8) (w : World) :
    Calls Tryz.prog 71 #[.int .u8 (c.toNat : Int)] w fun e w' => e = .returned (.bool (digB c)) ∧ w = w' := by
  by_cases h1 : 48 ≤ c.toNat ∧ c.toNat ≤ 57
  · have H := Lib.hid (show digB c = true by unfold digB; rw [dig_lo c h1.1 h1.2]; rfl)
    go_enter Tryz.func71, Tryz.ntmps71
    go_wp2
    all_goals (go_ret; exact ⟨ret_bool (by rw [H.out]; try simp; try omega), rfl⟩)
  · by_cases h2 : 97 ≤ c.toNat ∧ c.toNat ≤ 102
    · have H := Lib.hid (show digB c = true by unfold digB; rw [dig_hi c h2.1 h2.2]; rfl)
      go_enter Tryz.func71, Tryz.ntmps71
      go_wp2
      all_goals (go_ret; exact ⟨ret_bool (by rw [H.out]; try simp; try omega), rfl⟩)
    · have H := Lib.hid (show digB c = false by unfold digB; rw [dig_no c h1 h2]; rfl)
      go_enter Tryz.func71, Tryz.ntmps71
      go_wp2
      all_goals (go_ret; exact ⟨ret_bool (by rw [H.out]; try simp; try omega), rfl⟩)
theorem getD_eq (s : ByteArray) (k : Nat) (h : k < s.size) : s.data.toList.getD k 0 = s[k] := by
  rw [List.getD_eq_getElem?_getD, List.getElem?_eq_getElem (by simpa using h)]; rfl
def okRel (s : ByteArray) (i : Value) : Prop := ∃ k : Nat, k ≤ 21 ∧ i = .int .i64 k ∧ ∀ j, j < k → okAt s.data.toList j = true
theorem ok_step (s : ByteArray) (k : Nat) (h : ∀ j, j < k → okAt s.data.toList j = true) (hk : okAt s.data.toList k = true) : ∀ j, j < k + 1 → okAt s.data.toList j = true := by
  intro j hj
  by_cases e : j = k
  · rw [e]; exact hk
  · exact h j (by omega)
set_option maxHeartbeats 1600000 in
theorem form_any (s : ByteArray) (w : World) :
    Calls Tryz.prog 58 #[.string s] w fun e w' => e = .returned (.bool (formB s.data.toList)) ∧ w = w' := by
  have hlen : s.data.toList.length = s.size := by simp
  by_cases h21 : s.size = 21
  · have Hl := Lib.hid (show s.data.toList.length = 21 by omega)
    clear hlen
    go_enter Tryz.func58, Tryz.ntmps58
    go_wp2
    go_loop [9] (fun i => okRel s i) (fun i => 21 - (intOf i).toNat)
    case atStart => exact ⟨0, by decide, rfl, fun j h => absurd h (Nat.not_lt_zero _)⟩
    case round =>
      obtain ⟨k, hk, rfl, hok⟩ := hrel
      have Hok := Lib.hid hok
      clear hok
      by_cases hlt : k < 21
      · have hg := getD_eq s k (by omega)
        by_cases h4 : k = 4
        · subst h4
          by_cases h36 : s[4]'(by omega) = 36
          · have t : ((((s[4]'(by omega)).toNat : Int) != 36) : Bool) = false := u8_nn _ _ h36
            have Hs := Lib.hid (ok_step s 4 Hok.out (by unfold okAt; rw [if_pos rfl, hg, h36]; rfl))
            clear hg h36
            go_wp2
            go_round
            case rel => exact ⟨5, by decide, rfl, Hs.out⟩
            case measure => decide
          · have t : ((((s[4]'(by omega)).toNat : Int) != 36) : Bool) = true := u8_ne _ _ h36
            have Hr := Lib.hid (form_no s.data.toList 4 hlt (by unfold okAt; rw [if_pos rfl, hg]; simpa using h36))
            clear hg h36
            go_wp2
            go_ret
            exact ⟨ret_bool Hr.out.symm, rfl⟩
        · have h4' : (((k : Int) == 4) : Bool) = false := by rw [beq_eq_false_iff_ne]; omega
          cases hd : digB (s[k]'(by omega))
          · have Hr := Lib.hid (form_no s.data.toList k hlt (by unfold okAt; rw [if_neg h4, hg, hd]))
            have Hd := Lib.hid hd
            clear hg hd
            go_wp2_with (go_at_call 71; refine (hex_any _ _).mono ?_; rintro e w' ⟨rfl, rfl⟩; rw [Hd.out])
            go_ret
            exact ⟨ret_bool Hr.out.symm, rfl⟩
          · have Hs := Lib.hid (ok_step s k Hok.out (by unfold okAt; rw [if_neg h4, hg, hd]))
            have Hd := Lib.hid hd
            clear hg hd
            go_wp2_with (go_at_call 71; refine (hex_any _ _).mono ?_; rintro e w' ⟨rfl, rfl⟩; rw [Hd.out])
            go_round
            case rel => exact ⟨k + 1, hlt, by go_num, Hs.out⟩
            case measure => simp [intOf]; omega
      · obtain rfl : k = 21 := by omega
        have Hr := Lib.hid ((form_iff _).2 ⟨Hl.out, Hok.out⟩)
        go_wp2
        go_ret
        exact ⟨ret_bool Hr.out.symm, rfl⟩
  · have Hr := Lib.hid (show formB s.data.toList = false by rw [Bool.eq_false_iff]; intro h; have := ((form_iff _).1 h).1; omega)
    have h21' : (((s.size : Int) != 21) : Bool) = true := by rw [bne_iff_ne]; omega
    clear hlen
    go_enter Tryz.func58, Tryz.ntmps58
    go_wp2
    go_ret
    exact ⟨ret_bool Hr.out.symm, rfl⟩
theorem empty_list (s : ByteArray) (h : s.data.toList = []) : s = ⟨#[]⟩ := by
  apply ByteArray.ext; apply Array.toList_inj.1; rw [h]
theorem list_eq (s t : ByteArray) (h : s.data.toList = t.data.toList) : s = t := by
  apply ByteArray.ext; exact Array.toList_inj.1 h
theorem tl (s : ByteArray) : s.toList = s.data.toList := Lib.toList_data s
theorem right_e {s : ByteArray} (h : s.toList = []) : rightS s.data.toList = true := by rw [← tl, h]; rfl
theorem right_s {s : ByteArray} (h : s.toList = [42]) : rightS s.data.toList = true := by rw [← tl, h]; rfl
theorem right_f {s : ByteArray} (h : ¬ s.toList = []) (h2 : ¬ s.toList = [42]) : rightS s.data.toList = formB s.data.toList := by
  rw [tl] at h h2
  unfold rightS
  rw [beq_eq_false_iff_ne.2 h, beq_eq_false_iff_ne.2 h2]; rfl
theorem isE_t {s : ByteArray} (h : s.toList = []) : s.toList.isEmpty = true := by rw [h]; rfl
theorem isE_f {s : ByteArray} (h : ¬ s.toList = []) : s.toList.isEmpty = false := by
  cases hs : s.toList with
  | nil => exact absurd hs h
  | cons a r => rfl
theorem isS_t {s : ByteArray} (h : s.toList = [42]) : (s.toList == [42]) = true := by rw [h]; rfl
theorem isS_f {s : ByteArray} (h : ¬ s.toList = [42]) : (s.toList == [42]) = false := beq_eq_false_iff_ne.2 h
theorem right_any (s : ByteArray) (w : World) :
    Calls Tryz.prog 40 #[.string s] w fun e w' => e = .returned (.bool (rightS s.data.toList)) ∧ w = w' := by
  by_cases h : s.toList = []
  · have Hr := Lib.hid (right_e h)
    have hE := isE_t h
    go_enter Tryz.func40, Tryz.ntmps40
    go_wp2
    go_ret
    exact ⟨ret_bool Hr.out.symm, rfl⟩
  · by_cases h2 : s.toList = [42]
    · have Hr := Lib.hid (right_s h2)
      have hE := isE_f h
      have hS := isS_t h2
      clear h h2
      go_enter Tryz.func40, Tryz.ntmps40
      go_wp2
      go_ret
      exact ⟨ret_bool (by rw [Hr.out]), rfl⟩
    · have Hr := Lib.hid (right_f h h2)
      have hE := isE_f h
      have hS := isS_f h2
      clear h h2
      go_enter Tryz.func40, Tryz.ntmps40
      go_wp2_with (go_at_call 58; refine (form_any s _).mono ?_; rintro e w' ⟨rfl, rfl⟩)
      go_ret
      exact ⟨ret_bool (by rw [Hr.out]), rfl⟩
end Go.Proofs.YtjopmchbphjliaaGreatDoor.Mx
