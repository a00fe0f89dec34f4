/- Contracts of the small functions of the document's answer on changes: at, mine, bits. -/
import Derived.Test.YtmjjhoaplcjjcaaW3
import Derived.Lib.Bytealg
namespace Go.Proofs.Ytmjjhoaplcjjcaa
open Go.RowKit

def atRel (s : ByteArray) (c : UInt8) (i : Value) : Prop :=
  ∃ k : Nat, k ≤ s.size ∧ i = .int .i64 k ∧ Lib.indexByte s.data.toList c = if Lib.indexByte (s.data.toList.drop k) c = -1 then -1 else Lib.indexByte (s.data.toList.drop k) c + k
theorem at_hit (s : ByteArray) (c : UInt8) (k : Nat) (h : k < s.size) (hc : s[k] = c) : Lib.indexByte (s.data.toList.drop k) c = 0 := by
  rw [drop_eq s k h, Lib.indexByte, if_pos (by simpa using hc)]
theorem at_miss (s : ByteArray) (c : UInt8) (k : Nat) (h : k < s.size) (hc : ¬ s[k] = c) :
    Lib.indexByte (s.data.toList.drop k) c = if Lib.indexByte (s.data.toList.drop (k + 1)) c = -1 then -1 else Lib.indexByte (s.data.toList.drop (k + 1)) c + 1 := by
  rw [drop_eq s k h, Lib.indexByte, if_neg (by simpa using hc)]
  simp
theorem at_end (s : ByteArray) (c : UInt8) (k : Nat) (h : s.size ≤ k) : Lib.indexByte (s.data.toList.drop k) c = -1 := by
  rw [List.drop_of_length_le (by simpa using h)]; rfl

set_option maxHeartbeats 800000 in
theorem at_any (s : ByteArray) (c : UInt8) (hs : s.size ≤ maxLen) (w : World) :
    Calls Try.prog 31 #[.string s, .int .u8 (c.toNat : Int)] w fun e w' => e = .returned (.int .i64 (Lib.indexByte s.data.toList c)) ∧ w = w' := by
  unfold maxLen at hs
  go_enter Try.func31, Try.ntmps31
  go_wp2
  go_loop [5] (fun i => atRel s c i) (fun i => s.size - (intOf i).toNat)
  case atStart => exact ⟨0, Nat.zero_le _, rfl, by rw [List.drop_zero]; split <;> simp_all⟩
  case round =>
    obtain ⟨k, hk, rfl, hn⟩ := hrel
    have Hn := Lib.hid hn; clear hn
    by_cases hlt : k < s.size
    · by_cases hc : s[k] = c
      · have t1 : (((s[k].toNat : Int) == (c.toNat : Int)) : Bool) = true := u8_true _ _ hc
        have Hc := Lib.hid hc
        clear hc
        go_wp2
        go_ret
        exact ⟨ret_val (congrArg (Value.int .i64) (by rw [Hn.out, at_hit s c k hlt Hc.out]; simp)), rfl⟩
      · have t1 : (((s[k].toNat : Int) == (c.toNat : Int)) : Bool) = false := u8_false _ _ hc
        have Hc := Lib.hid hc
        clear hc
        go_wp2
        go_round
        case rel =>
          refine ⟨k + 1, by omega, by go_num, ?_⟩
          have e := at_miss s c k hlt Hc.out
          have g := Lib.indexByte_ge (s.data.toList.drop (k + 1)) c
          rw [Hn.out, e]
          split <;> split <;> omega
        case measure => simp [intOf]; omega
    · go_wp2
      go_ret
      exact ⟨ret_val (congrArg (Value.int .i64) (by rw [Hn.out, at_end s c k (by omega)]; rfl)), rfl⟩

def mineS (who : Nat) : Nat := (if who.testBit 0 then 519 else 0) ||| ((if who.testBit 1 then 56 else 0) ||| (if who.testBit 2 then 2496 else 0))
/-- after one, two, three rounds, at the walk's own words. -/
def bT1 (p who : Int) : Int := if (bits .and .i64 who 1 == 1) = true then bits .or .i64 0 p else 0
def bT2 (p q who : Int) : Int := if (bits .and .i64 (who / 2) 1 == 1) = true then bits .or .i64 (bT1 p who) q else bT1 p who
def bT3 (p q r who : Int) : Int := if (bits .and .i64 (who / 4) 1 == 1) = true then bits .or .i64 (bT2 p q who) r else bT2 p q who
def bitRel (p q r who : Int) (o i : Value) : Prop :=
  (i = .int .i64 0 ∧ o = .int .i64 0) ∨ (i = .int .i64 1 ∧ o = .int .i64 (bT1 p who)) ∨ (i = .int .i64 2 ∧ o = .int .i64 (bT2 p q who)) ∨ (i = .int .i64 3 ∧ o = .int .i64 (bT3 p q r who))
theorem rel1y (p q r who : Int) (h : (bits .and .i64 who 1 == 1) = true) : bitRel p q r who (.int .i64 (bits .or .i64 0 p)) (.int .i64 1) := Or.inr (Or.inl ⟨rfl, by unfold bT1; rw [if_pos h]⟩)
theorem rel1n (p q r who : Int) (h : (bits .and .i64 who 1 == 1) = false) : bitRel p q r who (.int .i64 0) (.int .i64 1) := Or.inr (Or.inl ⟨rfl, by unfold bT1; rw [h, if_neg Bool.false_ne_true]⟩)
theorem rel2y (p q r who : Int) (h : (bits .and .i64 (who / 2) 1 == 1) = true) : bitRel p q r who (.int .i64 (bits .or .i64 (bT1 p who) q)) (.int .i64 2) := Or.inr (Or.inr (Or.inl ⟨rfl, by unfold bT2; rw [if_pos h]⟩))
theorem rel2n (p q r who : Int) (h : (bits .and .i64 (who / 2) 1 == 1) = false) : bitRel p q r who (.int .i64 (bT1 p who)) (.int .i64 2) := Or.inr (Or.inr (Or.inl ⟨rfl, by unfold bT2; rw [h, if_neg Bool.false_ne_true]⟩))
theorem rel3y (p q r who : Int) (h : (bits .and .i64 (who / 4) 1 == 1) = true) : bitRel p q r who (.int .i64 (bits .or .i64 (bT2 p q who) r)) (.int .i64 3) := Or.inr (Or.inr (Or.inr ⟨rfl, by unfold bT3; rw [if_pos h]⟩))
theorem rel3n (p q r who : Int) (h : (bits .and .i64 (who / 4) 1 == 1) = false) : bitRel p q r who (.int .i64 (bT2 p q who)) (.int .i64 3) := Or.inr (Or.inr (Or.inr ⟨rfl, by unfold bT3; rw [h, if_neg Bool.false_ne_true]⟩))
def mineE (who : Int) : Int :=
  if (bits .and .i64 who 1 != 0) = true then bits .or .i64 (if (bits .and .i64 who 4 != 0) = true then bits .or .i64 (bT3 7 56 448 who) 2048 else bT3 7 56 448 who) 512
  else if (bits .and .i64 who 4 != 0) = true then bits .or .i64 (bT3 7 56 448 who) 2048 else bT3 7 56 448 who
set_option maxHeartbeats 800000 in
theorem mine_walk (who : Int) (w : World) :
    Calls Try.prog 33 #[.int .i64 who] w fun e w' => e = .returned (.int .i64 (mineE who)) ∧ w = w' := by
  go_enter Try.func33, Try.ntmps33
  go_wp2
  go_loop [3, 4] (fun o i => bitRel 7 56 448 who o i) (fun _ i => 3 - (intOf i).toNat)
  case atStart => exact Or.inl ⟨rfl, rfl⟩
  case round =>
    rcases hrel with ⟨rfl, rfl⟩ | ⟨rfl, rfl⟩ | ⟨rfl, rfl⟩ | ⟨rfl, rfl⟩
    · cases hb : (bits .and .i64 who 1 == 1)
      · go_wp2
        go_round
        case rel => exact rel1n 7 56 448 who hb
        case measure => simp [intOf]
      · go_wp2
        go_round
        case rel => exact rel1y 7 56 448 who hb
        case measure => simp [intOf]
    · cases hb : (bits .and .i64 (who / 2) 1 == 1)
      · go_wp2
        go_round
        case rel => exact rel2n 7 56 448 who hb
        case measure => simp [intOf]
      · go_wp2
        go_round
        case rel => exact rel2y 7 56 448 who hb
        case measure => simp [intOf]
    · cases hb : (bits .and .i64 (who / 4) 1 == 1)
      · go_wp2
        go_round
        case rel => exact rel3n 7 56 448 who hb
        case measure => simp [intOf]
      · go_wp2
        go_round
        case rel => exact rel3y 7 56 448 who hb
        case measure => simp [intOf]
    · cases h4 : (bits .and .i64 who 4 != 0)
      · cases h1 : (bits .and .i64 who 1 != 0)
        · have He := Lib.hid (show mineE who = _ by unfold mineE; rw [h1, h4, if_neg Bool.false_ne_true, if_neg Bool.false_ne_true])
          go_wp2
          go_ret
          exact ⟨ret_val (by rw [He.out]; rfl), rfl⟩
        · have He := Lib.hid (show mineE who = _ by unfold mineE; rw [h1, h4, if_pos rfl, if_neg Bool.false_ne_true])
          go_wp2
          go_ret
          exact ⟨ret_val (by rw [He.out]; rfl), rfl⟩
      · cases h1 : (bits .and .i64 who 1 != 0)
        · have He := Lib.hid (show mineE who = _ by unfold mineE; rw [h1, h4, if_neg Bool.false_ne_true, if_pos rfl])
          go_wp2
          go_ret
          exact ⟨ret_val (by rw [He.out]; rfl), rfl⟩
        · have He := Lib.hid (show mineE who = _ by unfold mineE; rw [h1, h4, if_pos rfl, if_pos rfl])
          go_wp2
          go_ret
          exact ⟨ret_val (by rw [He.out]; rfl), rfl⟩
theorem mineE_eq : ∀ who : Fin 8, mineE (who.val : Int) = ((mineS who.val : Nat) : Int) := by decide +kernel
theorem mine_any (who : Nat) (h : who < 8) (w : World) :
    Calls Try.prog 33 #[.int .i64 (who : Int)] w fun e w' => e = .returned (.int .i64 ((mineS who : Nat) : Int)) ∧ w = w' := by
  have := mine_walk (who : Int) w
  rw [mineE_eq ⟨who, h⟩] at this
  exact this
set_option maxHeartbeats 800000 in
theorem bits_r (c who m : Int) (dir : Bool) (t114 : (c == 114) = true) (w : World) :
    Calls Try.prog 32 #[.int .u8 c, .int .i64 who, .int .i64 m, .bool dir] w fun e w' => e = .returned (.int .i64 (bT3 4 32 256 who)) ∧ w = w' := by
  skip
  go_enter Try.func32, Try.ntmps32
  go_wp2
  go_loop [10, 11] (fun o i => bitRel 4 32 256 who o i) (fun _ i => 3 - (intOf i).toNat)
  case atStart => exact Or.inl ⟨rfl, rfl⟩
  case round =>
    rcases hrel with ⟨rfl, rfl⟩ | ⟨rfl, rfl⟩ | ⟨rfl, rfl⟩ | ⟨rfl, rfl⟩
    · cases hb : (bits .and .i64 who 1 == 1)
      · go_wp2
        go_round
        case rel => exact rel1n 4 32 256 who hb
        case measure => simp [intOf]
      · go_wp2
        go_round
        case rel => exact rel1y 4 32 256 who hb
        case measure => simp [intOf]
    · cases hb : (bits .and .i64 (who / 2) 1 == 1)
      · go_wp2
        go_round
        case rel => exact rel2n 4 32 256 who hb
        case measure => simp [intOf]
      · go_wp2
        go_round
        case rel => exact rel2y 4 32 256 who hb
        case measure => simp [intOf]
    · cases hb : (bits .and .i64 (who / 4) 1 == 1)
      · go_wp2
        go_round
        case rel => exact rel3n 4 32 256 who hb
        case measure => simp [intOf]
      · go_wp2
        go_round
        case rel => exact rel3y 4 32 256 who hb
        case measure => simp [intOf]
    · go_wp2
      go_ret
      exact ⟨rfl, rfl⟩
set_option maxHeartbeats 800000 in
theorem bits_w (c who m : Int) (dir : Bool) (t114 : (c == 114) = false) (t119 : (c == 119) = true) (w : World) :
    Calls Try.prog 32 #[.int .u8 c, .int .i64 who, .int .i64 m, .bool dir] w fun e w' => e = .returned (.int .i64 (bT3 2 16 128 who)) ∧ w = w' := by
  skip
  go_enter Try.func32, Try.ntmps32
  go_wp2
  go_loop [10, 11] (fun o i => bitRel 2 16 128 who o i) (fun _ i => 3 - (intOf i).toNat)
  case atStart => exact Or.inl ⟨rfl, rfl⟩
  case round =>
    rcases hrel with ⟨rfl, rfl⟩ | ⟨rfl, rfl⟩ | ⟨rfl, rfl⟩ | ⟨rfl, rfl⟩
    · cases hb : (bits .and .i64 who 1 == 1)
      · go_wp2
        go_round
        case rel => exact rel1n 2 16 128 who hb
        case measure => simp [intOf]
      · go_wp2
        go_round
        case rel => exact rel1y 2 16 128 who hb
        case measure => simp [intOf]
    · cases hb : (bits .and .i64 (who / 2) 1 == 1)
      · go_wp2
        go_round
        case rel => exact rel2n 2 16 128 who hb
        case measure => simp [intOf]
      · go_wp2
        go_round
        case rel => exact rel2y 2 16 128 who hb
        case measure => simp [intOf]
    · cases hb : (bits .and .i64 (who / 4) 1 == 1)
      · go_wp2
        go_round
        case rel => exact rel3n 2 16 128 who hb
        case measure => simp [intOf]
      · go_wp2
        go_round
        case rel => exact rel3y 2 16 128 who hb
        case measure => simp [intOf]
    · go_wp2
      go_ret
      exact ⟨rfl, rfl⟩
set_option maxHeartbeats 800000 in
theorem bits_x (c who m : Int) (dir : Bool) (t114 : (c == 114) = false) (t119 : (c == 119) = false) (t120 : (c == 120) = true) (w : World) :
    Calls Try.prog 32 #[.int .u8 c, .int .i64 who, .int .i64 m, .bool dir] w fun e w' => e = .returned (.int .i64 (bT3 1 8 64 who)) ∧ w = w' := by
  skip
  go_enter Try.func32, Try.ntmps32
  go_wp2
  go_loop [10, 11] (fun o i => bitRel 1 8 64 who o i) (fun _ i => 3 - (intOf i).toNat)
  case atStart => exact Or.inl ⟨rfl, rfl⟩
  case round =>
    rcases hrel with ⟨rfl, rfl⟩ | ⟨rfl, rfl⟩ | ⟨rfl, rfl⟩ | ⟨rfl, rfl⟩
    · cases hb : (bits .and .i64 who 1 == 1)
      · go_wp2
        go_round
        case rel => exact rel1n 1 8 64 who hb
        case measure => simp [intOf]
      · go_wp2
        go_round
        case rel => exact rel1y 1 8 64 who hb
        case measure => simp [intOf]
    · cases hb : (bits .and .i64 (who / 2) 1 == 1)
      · go_wp2
        go_round
        case rel => exact rel2n 1 8 64 who hb
        case measure => simp [intOf]
      · go_wp2
        go_round
        case rel => exact rel2y 1 8 64 who hb
        case measure => simp [intOf]
    · cases hb : (bits .and .i64 (who / 4) 1 == 1)
      · go_wp2
        go_round
        case rel => exact rel3n 1 8 64 who hb
        case measure => simp [intOf]
      · go_wp2
        go_round
        case rel => exact rel3y 1 8 64 who hb
        case measure => simp [intOf]
    · go_wp2
      go_ret
      exact ⟨rfl, rfl⟩
set_option maxHeartbeats 800000 in
theorem bits_Xt (c who m : Int) (dir : Bool) (t114 : (c == 114) = false) (t119 : (c == 119) = false) (t120 : (c == 120) = false) (t88 : (c == 88) = true) (hd : dir = true) (w : World) :
    Calls Try.prog 32 #[.int .u8 c, .int .i64 who, .int .i64 m, .bool dir] w fun e w' => e = .returned (.int .i64 (bT3 1 8 64 who)) ∧ w = w' := by
  subst hd
  go_enter Try.func32, Try.ntmps32
  go_wp2
  go_loop [10, 11] (fun o i => bitRel 1 8 64 who o i) (fun _ i => 3 - (intOf i).toNat)
  case atStart => exact Or.inl ⟨rfl, rfl⟩
  case round =>
    rcases hrel with ⟨rfl, rfl⟩ | ⟨rfl, rfl⟩ | ⟨rfl, rfl⟩ | ⟨rfl, rfl⟩
    · cases hb : (bits .and .i64 who 1 == 1)
      · go_wp2
        go_round
        case rel => exact rel1n 1 8 64 who hb
        case measure => simp [intOf]
      · go_wp2
        go_round
        case rel => exact rel1y 1 8 64 who hb
        case measure => simp [intOf]
    · cases hb : (bits .and .i64 (who / 2) 1 == 1)
      · go_wp2
        go_round
        case rel => exact rel2n 1 8 64 who hb
        case measure => simp [intOf]
      · go_wp2
        go_round
        case rel => exact rel2y 1 8 64 who hb
        case measure => simp [intOf]
    · cases hb : (bits .and .i64 (who / 4) 1 == 1)
      · go_wp2
        go_round
        case rel => exact rel3n 1 8 64 who hb
        case measure => simp [intOf]
      · go_wp2
        go_round
        case rel => exact rel3y 1 8 64 who hb
        case measure => simp [intOf]
    · go_wp2
      go_ret
      exact ⟨rfl, rfl⟩
set_option maxHeartbeats 800000 in
theorem bits_Xm (c who m : Int) (dir : Bool) (t114 : (c == 114) = false) (t119 : (c == 119) = false) (t120 : (c == 120) = false) (t88 : (c == 88) = true) (hd : dir = false) (hx : (bits .and .i64 m 73 != 0) = true) (w : World) :
    Calls Try.prog 32 #[.int .u8 c, .int .i64 who, .int .i64 m, .bool dir] w fun e w' => e = .returned (.int .i64 (bT3 1 8 64 who)) ∧ w = w' := by
  subst hd
  go_enter Try.func32, Try.ntmps32
  go_wp2
  go_loop [10, 11] (fun o i => bitRel 1 8 64 who o i) (fun _ i => 3 - (intOf i).toNat)
  case atStart => exact Or.inl ⟨rfl, rfl⟩
  case round =>
    rcases hrel with ⟨rfl, rfl⟩ | ⟨rfl, rfl⟩ | ⟨rfl, rfl⟩ | ⟨rfl, rfl⟩
    · cases hb : (bits .and .i64 who 1 == 1)
      · go_wp2
        go_round
        case rel => exact rel1n 1 8 64 who hb
        case measure => simp [intOf]
      · go_wp2
        go_round
        case rel => exact rel1y 1 8 64 who hb
        case measure => simp [intOf]
    · cases hb : (bits .and .i64 (who / 2) 1 == 1)
      · go_wp2
        go_round
        case rel => exact rel2n 1 8 64 who hb
        case measure => simp [intOf]
      · go_wp2
        go_round
        case rel => exact rel2y 1 8 64 who hb
        case measure => simp [intOf]
    · cases hb : (bits .and .i64 (who / 4) 1 == 1)
      · go_wp2
        go_round
        case rel => exact rel3n 1 8 64 who hb
        case measure => simp [intOf]
      · go_wp2
        go_round
        case rel => exact rel3y 1 8 64 who hb
        case measure => simp [intOf]
    · go_wp2
      go_ret
      exact ⟨rfl, rfl⟩
set_option maxHeartbeats 800000 in
theorem bits_Xf (c who m : Int) (dir : Bool) (t114 : (c == 114) = false) (t119 : (c == 119) = false) (t120 : (c == 120) = false) (t88 : (c == 88) = true) (hd : dir = false) (hx : (bits .and .i64 m 73 != 0) = false) (w : World) :
    Calls Try.prog 32 #[.int .u8 c, .int .i64 who, .int .i64 m, .bool dir] w fun e w' => e = .returned (.int .i64 (bT3 0 0 0 who)) ∧ w = w' := by
  subst hd
  go_enter Try.func32, Try.ntmps32
  go_wp2
  go_loop [10, 11] (fun o i => bitRel 0 0 0 who o i) (fun _ i => 3 - (intOf i).toNat)
  case atStart => exact Or.inl ⟨rfl, rfl⟩
  case round =>
    rcases hrel with ⟨rfl, rfl⟩ | ⟨rfl, rfl⟩ | ⟨rfl, rfl⟩ | ⟨rfl, rfl⟩
    · cases hb : (bits .and .i64 who 1 == 1)
      · go_wp2
        go_round
        case rel => exact rel1n 0 0 0 who hb
        case measure => simp [intOf]
      · go_wp2
        go_round
        case rel => exact rel1y 0 0 0 who hb
        case measure => simp [intOf]
    · cases hb : (bits .and .i64 (who / 2) 1 == 1)
      · go_wp2
        go_round
        case rel => exact rel2n 0 0 0 who hb
        case measure => simp [intOf]
      · go_wp2
        go_round
        case rel => exact rel2y 0 0 0 who hb
        case measure => simp [intOf]
    · cases hb : (bits .and .i64 (who / 4) 1 == 1)
      · go_wp2
        go_round
        case rel => exact rel3n 0 0 0 who hb
        case measure => simp [intOf]
      · go_wp2
        go_round
        case rel => exact rel3y 0 0 0 who hb
        case measure => simp [intOf]
    · go_wp2
      go_ret
      exact ⟨rfl, rfl⟩
theorem bits_s (c who m : Int) (dir : Bool) (t114 : (c == 114) = false) (t119 : (c == 119) = false) (t120 : (c == 120) = false) (t88 : (c == 88) = false) (t115 : (c == 115) = true) (w : World) :
    Calls Try.prog 32 #[.int .u8 c, .int .i64 who, .int .i64 m, .bool dir] w fun e w' => e = .returned (.int .i64 (if (bits .and .i64 who 4 != 0) = true then 2048 else 0)) ∧ w = w' := by
  cases hb : (bits .and .i64 who 4 != 0)
  · go_enter Try.func32, Try.ntmps32
    go_wp2
    go_ret
    exact ⟨rfl, rfl⟩
  · go_enter Try.func32, Try.ntmps32
    go_wp2
    go_ret
    exact ⟨rfl, rfl⟩
theorem bits_t (c who m : Int) (dir : Bool) (t114 : (c == 114) = false) (t119 : (c == 119) = false) (t120 : (c == 120) = false) (t88 : (c == 88) = false) (t115 : (c == 115) = false) (t116 : (c == 116) = true) (w : World) :
    Calls Try.prog 32 #[.int .u8 c, .int .i64 who, .int .i64 m, .bool dir] w fun e w' => e = .returned (.int .i64 (if (bits .and .i64 who 1 != 0) = true then 512 else 0)) ∧ w = w' := by
  cases hb : (bits .and .i64 who 1 != 0)
  · go_enter Try.func32, Try.ntmps32
    go_wp2
    go_ret
    exact ⟨rfl, rfl⟩
  · go_enter Try.func32, Try.ntmps32
    go_wp2
    go_ret
    exact ⟨rfl, rfl⟩
end Go.Proofs.Ytmjjhoaplcjjcaa
