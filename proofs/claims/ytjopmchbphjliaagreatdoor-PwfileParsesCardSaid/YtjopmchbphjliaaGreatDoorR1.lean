/- Which users there may be: contracts of isLetter, isDigit, isUserName, isID, isPlace, isRightUser. -/
import Derived.Test.YtjopmchbphjliaaGreatDoorPaW7
import Derived.Test.YtjopmchbphjliaaGreatDoorMx
import Derived.Test.YtjopmchbphjliaaGreatDoorU3
namespace Go.Proofs.YtjopmchbphjliaaGreatDoor
open Go.RowKit Go.Shelf

def letB (c : UInt8) : Bool := decide (97 ≤ c.toNat) && decide (c.toNat ≤ 122)
def decB (c : UInt8) : Bool := decide (48 ≤ c.toNat) && decide (c.toNat ≤ 57)
def wordB (c : UInt8) : Bool := letB c || decB c
def nameU (l : List UInt8) : Bool := decide (1 ≤ l.length) && (decide (l.length ≤ 8) && (letB (l.headD 0) && l.all wordB))
def idB (n : Int) : Bool := decide (0 ≤ n) && decide (n ≤ 65535)
def placeB (l : List UInt8) : Bool := decide (splE l = 0) && (absP l && !l.contains 58)
def rightU (u : Usr) : Bool := nameU u.name.data.toList && (Mx.rightS u.pass.data.toList && (idB u.id && (idB u.grp && (placeB u.home.data.toList && placeB u.shell.data.toList))))

theorem not_between {c a b : Nat} (h : ¬ (a ≤ c ∧ c ≤ b)) : (decide (a ≤ c) && decide (c ≤ b)) = false := by
  rw [Bool.eq_false_iff]; intro e; simp at e; exact h e
theorem let_any (c : UInt8) (w : World) :
    Calls Tryz.prog 56 #[.int .u8 (c.toNat : Int)] w fun e w' => e = .returned (.bool (letB c)) ∧ w = w' := by
  by_cases h : 97 ≤ c.toNat ∧ c.toNat ≤ 122
  · have H := Lib.hid (show letB c = true by unfold letB; rw [decide_eq_true h.1, decide_eq_true h.2]; rfl)
    go_enter Tryz.func56, Tryz.ntmps56
    go_wp2
    all_goals (go_ret; exact ⟨ret_bool (by rw [H.out]; try simp; try omega), rfl⟩)
  · have H := Lib.hid (show letB c = false by unfold letB; exact not_between h)
    go_enter Tryz.func56, Tryz.ntmps56
    go_wp2
    all_goals (go_ret; exact ⟨ret_bool (by rw [H.out]; try simp; try omega), rfl⟩)
theorem dec_any (c : UInt8) (w : World) :
    Calls Tryz.prog 57 #[.int .u8 (c.toNat : Int)] w fun e w' => e = .returned (.bool (decB c)) ∧ w = w' := by
  by_cases h : 48 ≤ c.toNat ∧ c.toNat ≤ 57
  · have H := Lib.hid (show decB c = true by unfold decB; rw [decide_eq_true h.1, decide_eq_true h.2]; rfl)
    go_enter Tryz.func57, Tryz.ntmps57
    go_wp2
    all_goals (go_ret; exact ⟨ret_bool (by rw [H.out]; try simp; try omega), rfl⟩)
  · have H := Lib.hid (show decB c = false by unfold decB; exact not_between h)
    go_enter Tryz.func57, Tryz.ntmps57
    go_wp2
    all_goals (go_ret; exact ⟨ret_bool (by rw [H.out]; try simp; try omega), rfl⟩)
theorem isID_any (n : Int) (w : World) :
    Calls Tryz.prog 41 #[.int .i64 n] w fun e w' => e = .returned (.bool (idB n)) ∧ w = w' := by
  by_cases h : 0 ≤ n
  · have H := Lib.hid (show idB n = decide (n ≤ 65535) by unfold idB; rw [decide_eq_true h]; rfl)
    go_enter Tryz.func41, Tryz.ntmps41
    go_wp2
    all_goals (go_ret; exact ⟨ret_bool (by rw [H.out]; try simp; try omega), rfl⟩)
  · have H := Lib.hid (show idB n = false by unfold idB; rw [decide_eq_false h]; rfl)
    go_enter Tryz.func41, Tryz.ntmps41
    go_wp2
    all_goals (go_ret; exact ⟨ret_bool (by rw [H.out]; try simp; try omega), rfl⟩)
def allRel (p : UInt8 → Bool) (s : ByteArray) (i : Value) : Prop := ∃ k : Nat, k ≤ s.size ∧ i = .int .i64 k ∧ (s.data.toList.drop k).all p = s.data.toList.all p
theorem all_step {p : UInt8 → Bool} (s : ByteArray) (k : Nat) (h : k < s.size) (hb : p s[k] = true) : (s.data.toList.drop k).all p = (s.data.toList.drop (k + 1)).all p := by
  rw [drop_eq s k h, List.all_cons, hb, Bool.true_and]
theorem all_stop {p : UInt8 → Bool} (s : ByteArray) (k : Nat) (h : k < s.size) (hb : p s[k] = false) : (s.data.toList.drop k).all p = false := by
  rw [drop_eq s k h, List.all_cons, hb, Bool.false_and]
theorem all_end {p : UInt8 → Bool} (s : ByteArray) (k : Nat) (h : s.size ≤ k) : (s.data.toList.drop k).all p = true := by
  rw [List.drop_of_length_le (by simpa using h)]; rfl
theorem head_at (s : ByteArray) (h : 0 < s.size) : s.data.toList.headD 0 = s[0] := by
  have e := drop_eq s 0 h
  rw [List.drop_zero] at e
  rw [e]; rfl
set_option maxHeartbeats 1600000 in
theorem userName_any (s : ByteArray) (hs : s.size ≤ maxLen) (w : World) :
    Calls Tryz.prog 39 #[.string s] w fun e w' => e = .returned (.bool (nameU s.data.toList)) ∧ w = w' := by
  unfold maxLen at hs
  by_cases h1 : 1 ≤ s.size
  · by_cases h8 : s.size ≤ 8
    · have hd := head_at s (by omega)
      cases hl : letB s[0]
      · have Hr := Lib.hid (show nameU s.data.toList = false by unfold nameU; rw [hd, hl]; simp)
        have Hl := Lib.hid hl
        clear hd hl
        go_enter Tryz.func39, Tryz.ntmps39
        go_wp2_with (go_at_call 56; refine (let_any _ _).mono ?_; rintro e w' ⟨rfl, rfl⟩; rw [Hl.out])
        go_ret
        exact ⟨ret_bool Hr.out.symm, rfl⟩
      · have Hr := Lib.hid (show nameU s.data.toList = s.data.toList.all wordB by unfold nameU; rw [hd, hl, size_len, decide_eq_true h1, decide_eq_true h8]; rfl)
        have Hl := Lib.hid hl
        clear hd hl
        go_enter Tryz.func39, Tryz.ntmps39
        go_wp2_with (go_at_call 56; refine (let_any _ _).mono ?_; rintro e w' ⟨rfl, rfl⟩; rw [Hl.out])
        go_loop [20] (fun i => allRel wordB s i) (fun i => s.size - (intOf i).toNat)
        case atStart => exact ⟨0, Nat.zero_le _, rfl, rfl⟩
        case round =>
          obtain ⟨k, hk, rfl, hn⟩ := hrel
          have Hn := Lib.hid hn; clear hn
          by_cases hlt : k < s.size
          · cases hb : wordB s[k]
            · have Hs := Lib.hid ((all_stop s k hlt hb).symm.trans Hn.out)
              obtain ⟨ha, hc⟩ := Bool.or_eq_false_iff.1 (show (letB s[k] || decB s[k]) = false from hb)
              have Ha := Lib.hid ha
              have Hc := Lib.hid hc
              clear hb ha hc
              go_wp2_with (first | (go_at_call 56; refine (let_any _ _).mono ?_; rintro e w' ⟨rfl, rfl⟩; rw [Ha.out]) | (go_at_call 57; refine (dec_any _ _).mono ?_; rintro e w' ⟨rfl, rfl⟩; rw [Hc.out]))
              go_ret
              exact ⟨ret_bool (by rw [Hr.out]; exact Hs.out), rfl⟩
            · have Hs := Lib.hid ((all_step s k hlt hb).symm.trans Hn.out)
              cases ha : letB s[k]
              · have hc : decB s[k] = true := by have : (letB s[k] || decB s[k]) = true := hb; rw [ha] at this; exact this
                have Ha := Lib.hid ha
                have Hc := Lib.hid hc
                clear hb ha hc
                go_wp2_with (first | (go_at_call 56; refine (let_any _ _).mono ?_; rintro e w' ⟨rfl, rfl⟩; rw [Ha.out]) | (go_at_call 57; refine (dec_any _ _).mono ?_; rintro e w' ⟨rfl, rfl⟩; rw [Hc.out]))
                go_round
                case rel => exact ⟨k + 1, by omega, by go_num, Hs.out⟩
                case measure => simp [intOf]; omega
              · have Ha := Lib.hid ha
                clear hb ha
                go_wp2_with (go_at_call 56; refine (let_any _ _).mono ?_; rintro e w' ⟨rfl, rfl⟩; rw [Ha.out])
                go_round
                case rel => exact ⟨k + 1, by omega, by go_num, Hs.out⟩
                case measure => simp [intOf]; omega
          · have Hs := Lib.hid ((all_end (p := wordB) s k (by omega)).symm.trans Hn.out)
            go_wp2
            go_ret
            exact ⟨ret_bool (by rw [Hr.out]; exact Hs.out), rfl⟩
    · have Hr := Lib.hid (show nameU s.data.toList = false by unfold nameU; rw [size_len, decide_eq_false h8]; simp)
      go_enter Tryz.func39, Tryz.ntmps39
      go_wp2
      go_ret
      exact ⟨ret_bool Hr.out.symm, rfl⟩
  · have Hr := Lib.hid (show nameU s.data.toList = false by unfold nameU; rw [size_len, decide_eq_false h1]; simp)
    go_enter Tryz.func39, Tryz.ntmps39
    go_wp2
    go_ret
    exact ⟨ret_bool Hr.out.symm, rfl⟩
end Go.Proofs.YtjopmchbphjliaaGreatDoor
