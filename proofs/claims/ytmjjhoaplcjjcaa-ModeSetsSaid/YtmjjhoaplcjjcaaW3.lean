/- Contracts of splitClasses and takeListed. -/
import Derived.Test.YtmjjhoaplcjjcaaW2
namespace Go.Proofs.Ytmjjhoaplcjjcaa
open Go.RowKit

theorem extract_drop (s : ByteArray) (k : Nat) : s.extract k s.size = ⟨(s.data.toList.drop k).toArray⟩ := by
  apply ByteArray.ext
  rw [ByteArray.data_extract]
  apply Array.toList_inj.1
  simp [Array.toList_extract, List.extract]
  rw [List.take_of_length_le (by simp)]

def takeV (o : Nat × List UInt8) : Value := .tuple #[.int .i64 o.1, .string ⟨o.2.toArray⟩]
theorem takeF_end (f : UInt8 → Option Nat) (s : ByteArray) (k v : Nat) (h : s.size ≤ k) : takeF f (s.data.toList.drop k) v = (v, []) := by
  rw [List.drop_of_length_le (by simpa using h), takeF]
theorem takeF_step (f : UInt8 → Option Nat) (s : ByteArray) (k v b : Nat) (h : k < s.size) (hb : f s[k] = some b) :
    takeF f (s.data.toList.drop k) v = takeF f (s.data.toList.drop (k + 1)) (v ||| b) := by
  rw [drop_eq s k h, takeF, hb]
theorem takeF_stop (f : UInt8 → Option Nat) (s : ByteArray) (k v : Nat) (h : k < s.size) (hb : f s[k] = none) :
    takeF f (s.data.toList.drop k) v = (v, s.data.toList.drop k) := by
  rw [drop_eq s k h, takeF, hb]

def takeRel (f : UInt8 → Option Nat) (s : ByteArray) (n i : Value) : Prop :=
  ∃ k v : Nat, k ≤ s.size ∧ i = .int .i64 k ∧ n = .int .i64 v ∧ v < 4096 ∧ takeF f (s.data.toList.drop k) v = takeF f s.data.toList 0

theorem or_lt (a b : Nat) (ha : a < 4096) (hb : b < 4096) : a ||| b < 4096 := Nat.or_lt_two_pow (n := 12) ha hb
theorem u8_true (c d : UInt8) (h : c = d) : (((c.toNat : Int) == (d.toNat : Int)) : Bool) = true := by rw [h]; simp
theorem u8_false (c d : UInt8) (h : ¬ c = d) : (((c.toNat : Int) == (d.toNat : Int)) : Bool) = false := by
  rw [beq_eq_false_iff_ne]; intro e; exact h (UInt8.toNat_inj.1 (by omega))
theorem rel_step (f : UInt8 → Option Nat) (s : ByteArray) (k v b : Nat) (hk : k < s.size) (hv : v < 4096) (hb : b < 4096) (hf : f s[k] = some b)
    (hn : Hid (takeF f (s.data.toList.drop k) v = takeF f s.data.toList 0)) : takeRel f s (.int .i64 (bits .or .i64 (v : Int) (b : Int))) (.int .i64 ((k : Int) + 1)) :=
  ⟨k + 1, v ||| b, by omega, by go_num, by rw [or_nat _ _ (by omega) (by omega)], or_lt _ _ hv hb, by rw [← hn.out, takeF_step f s k v b hk hf]⟩
theorem rel_keep (f : UInt8 → Option Nat) (s : ByteArray) (k v : Nat) (hk : k < s.size) (hv : v < 4096) (hf : f s[k] = some 0)
    (hn : Hid (takeF f (s.data.toList.drop k) v = takeF f s.data.toList 0)) : takeRel f s (.int .i64 (v : Int)) (.int .i64 ((k : Int) + 1)) :=
  ⟨k + 1, v, by omega, by go_num, rfl, hv, by rw [← hn.out, takeF_step f s k v 0 hk hf, Nat.or_zero]⟩
def Dr (w w' : World) : Prop := ∃ n, w' = w.drewN n
theorem Dr.refl (w : World) : Dr w w := ⟨0, rfl⟩

set_option maxHeartbeats 2000000 in
theorem take_any (s : ByteArray) (m : Int) (dir : Bool) (hs : s.size ≤ maxLen) (w : World) :
    Calls Try.prog 30 #[.string s, .int .i64 m, .bool dir] w fun e w' => e = .returned (takeV (takeF (litOf m dir) s.data.toList 0)) ∧ Dr w w' := by
  unfold maxLen at hs
  go_enter Try.func30, Try.ntmps30
  go_wp2
  go_loop [8, 9, 12] (fun n _ i => takeRel (litOf m dir) s n i) (fun _ _ i => s.size - (intOf i).toNat)
  case atStart => exact ⟨0, 0, Nat.zero_le _, rfl, rfl, by decide, rfl⟩
  case round =>
    obtain ⟨k, v, hk, rfl, rfl, hv, hn⟩ := hrel
    have Hn := Lib.hid hn; clear hn
    by_cases hlt : k < s.size
    · by_cases h114 : s[k] = 114
      · have t114 : (((s[k].toNat : Int) == 114) : Bool) = true := u8_true _ _ h114
        have Hf := Lib.hid (show litOf m dir s[k] = some 292 by unfold litOf; rw [if_pos h114])
        clear h114
        go_wp2
        go_round
        case rel => exact rel_step (litOf m dir) s k v 292 hlt hv (by decide) Hf.out Hn
        case measure => simp [intOf]; omega
      have t114 : (((s[k].toNat : Int) == 114) : Bool) = false := u8_false _ _ h114
      by_cases h119 : s[k] = 119
      · have t119 : (((s[k].toNat : Int) == 119) : Bool) = true := u8_true _ _ h119
        have Hf := Lib.hid (show litOf m dir s[k] = some 146 by unfold litOf; rw [if_neg h114, if_pos h119])
        clear h119
        go_wp2
        go_round
        case rel => exact rel_step (litOf m dir) s k v 146 hlt hv (by decide) Hf.out Hn
        case measure => simp [intOf]; omega
      have t119 : (((s[k].toNat : Int) == 119) : Bool) = false := u8_false _ _ h119
      by_cases h120 : s[k] = 120
      · have t120 : (((s[k].toNat : Int) == 120) : Bool) = true := u8_true _ _ h120
        have Hf := Lib.hid (show litOf m dir s[k] = some 73 by unfold litOf; rw [if_neg h114, if_neg h119, if_pos h120])
        clear h120
        go_wp2
        go_round
        case rel => exact rel_step (litOf m dir) s k v 73 hlt hv (by decide) Hf.out Hn
        case measure => simp [intOf]; omega
      have t120 : (((s[k].toNat : Int) == 120) : Bool) = false := u8_false _ _ h120
      by_cases h88 : s[k] = 88
      · have t88 : (((s[k].toNat : Int) == 88) : Bool) = true := u8_true _ _ h88
        cases hd : dir
        · cases hx : (bits .and .i64 m 73 != 0)
          · have Hf := Lib.hid (show litOf m false s[k] = some 0 by unfold litOf; rw [if_neg h114, if_neg h119, if_neg h120, if_pos h88, hx]; rfl)
            subst hd
            clear h88
            go_wp2
            go_round
            case rel => exact rel_keep (litOf m false) s k v hlt hv Hf.out Hn
            case measure => simp [intOf]; omega
          · have Hf := Lib.hid (show litOf m false s[k] = some 73 by unfold litOf; rw [if_neg h114, if_neg h119, if_neg h120, if_pos h88, hx]; rfl)
            subst hd
            clear h88
            go_wp2
            go_round
            case rel => exact rel_step (litOf m false) s k v 73 hlt hv (by decide) Hf.out Hn
            case measure => simp [intOf]; omega
        · have Hf := Lib.hid (show litOf m true s[k] = some 73 by unfold litOf; rw [if_neg h114, if_neg h119, if_neg h120, if_pos h88]; rfl)
          subst hd
          clear h88
          go_wp2
          go_round
          case rel => exact rel_step (litOf m true) s k v 73 hlt hv (by decide) Hf.out Hn
          case measure => simp [intOf]; omega
      have t88 : (((s[k].toNat : Int) == 88) : Bool) = false := u8_false _ _ h88
      by_cases h115 : s[k] = 115
      · have t115 : (((s[k].toNat : Int) == 115) : Bool) = true := u8_true _ _ h115
        have Hf := Lib.hid (show litOf m dir s[k] = some 2048 by unfold litOf; rw [if_neg h114, if_neg h119, if_neg h120, if_neg h88, if_pos h115])
        clear h115
        go_wp2
        go_round
        case rel => exact rel_step (litOf m dir) s k v 2048 hlt hv (by decide) Hf.out Hn
        case measure => simp [intOf]; omega
      have t115 : (((s[k].toNat : Int) == 115) : Bool) = false := u8_false _ _ h115
      by_cases h116 : s[k] = 116
      · have t116 : (((s[k].toNat : Int) == 116) : Bool) = true := u8_true _ _ h116
        have Hf := Lib.hid (show litOf m dir s[k] = some 512 by unfold litOf; rw [if_neg h114, if_neg h119, if_neg h120, if_neg h88, if_neg h115, if_pos h116])
        clear h116
        go_wp2
        go_round
        case rel => exact rel_step (litOf m dir) s k v 512 hlt hv (by decide) Hf.out Hn
        case measure => simp [intOf]; omega
      have t116 : (((s[k].toNat : Int) == 116) : Bool) = false := u8_false _ _ h116
      have Hf := Lib.hid (show litOf m dir s[k] = none by unfold litOf; rw [if_neg h114, if_neg h119, if_neg h120, if_neg h88, if_neg h115, if_neg h116])
      go_wp2
      go_quiet (fail)
      go_wp2
      go_ret2
      exact ⟨ret_val (by rw [← Hn.out, takeF_stop _ s k v hlt Hf.out, extract_drop]; rfl), nq, rfl⟩
    · go_wp2
      go_ret2
      refine ⟨?_, Dr.refl _⟩
      rw [← Hn.out, takeF_end _ s k v (by omega)]
      rfl

def splitRel (s : ByteArray) (n i : Value) : Prop :=
  ∃ k v : Nat, k ≤ s.size ∧ i = .int .i64 k ∧ n = .int .i64 v ∧ v < 4096 ∧ (0 < k → splitS s.data.toList = takeF clsOf s.data.toList 0) ∧ takeF clsOf (s.data.toList.drop k) v = takeF clsOf s.data.toList 0
theorem split_first (s : ByteArray) (b : Nat) (k : Nat) (hk : k < s.size) (hf : clsOf s[k] = some b) (h : Hid (0 < k → splitS s.data.toList = takeF clsOf s.data.toList 0)) :
    splitS s.data.toList = takeF clsOf s.data.toList 0 := by
  by_cases h0 : 0 < k
  · exact h.out h0
  · obtain rfl : k = 0 := by omega
    have e := drop_eq s 0 hk
    rw [List.drop_zero] at e
    unfold splitS
    rw [e]
    simp only [hf]
theorem split_none (s : ByteArray) (hk : 0 < s.size) (hf : clsOf s[0] = none) : splitS s.data.toList = (3071, s.data.toList) := by
  have e := drop_eq s 0 hk
  rw [List.drop_zero] at e
  unfold splitS
  rw [e]
  simp only [hf]
theorem split_nil (s : ByteArray) (hk : s.size = 0) : splitS s.data.toList = takeF clsOf s.data.toList 0 := by
  have e : s.data.toList = [] := List.length_eq_zero_iff.1 (by simpa using hk)
  rw [e]; rfl
theorem split_step (s : ByteArray) (k v b : Nat) (hk : k < s.size) (hv : v < 4096) (hb : b < 4096) (hf : clsOf s[k] = some b)
    (hs : Hid (0 < k → splitS s.data.toList = takeF clsOf s.data.toList 0))
    (hn : Hid (takeF clsOf (s.data.toList.drop k) v = takeF clsOf s.data.toList 0)) : splitRel s (.int .i64 (bits .or .i64 (v : Int) (b : Int))) (.int .i64 ((k : Int) + 1)) :=
  ⟨k + 1, v ||| b, by omega, by go_num, by rw [or_nat _ _ (by omega) (by omega)], or_lt _ _ hv hb, fun _ => split_first s b k hk hf hs, by rw [← hn.out, takeF_step clsOf s k v b hk hf]⟩

set_option maxHeartbeats 2000000 in
theorem split_any (s : ByteArray) (hs : s.size ≤ maxLen) (w : World) :
    Calls Try.prog 29 #[.string s] w fun e w' => e = .returned (takeV (splitS s.data.toList)) ∧ Dr w w' := by
  unfold maxLen at hs
  go_enter Try.func29, Try.ntmps29
  go_wp2
  go_loop [4, 5, 8] (fun n _ i => splitRel s n i) (fun _ _ i => s.size - (intOf i).toNat)
  case atStart => exact ⟨0, 0, Nat.zero_le _, rfl, rfl, by decide, fun h => absurd h (by decide), rfl⟩
  case round =>
    obtain ⟨k, v, hk, rfl, rfl, hv, hq, hn⟩ := hrel
    have Hn := Lib.hid hn; clear hn
    have Hq := Lib.hid hq; clear hq
    by_cases hlt : k < s.size
    · by_cases h117 : s[k] = 117
      · have t117 : (((s[k].toNat : Int) == 117) : Bool) = true := u8_true _ _ h117
        have Hf := Lib.hid (show clsOf s[k] = some 2496 by unfold clsOf; rw [if_pos h117])
        clear h117
        go_wp2
        go_round
        case rel => exact split_step s k v 2496 hlt hv (by decide) Hf.out Hq Hn
        case measure => simp [intOf]; omega
      have t117 : (((s[k].toNat : Int) == 117) : Bool) = false := u8_false _ _ h117
      by_cases h103 : s[k] = 103
      · have t103 : (((s[k].toNat : Int) == 103) : Bool) = true := u8_true _ _ h103
        have Hf := Lib.hid (show clsOf s[k] = some 56 by unfold clsOf; rw [if_neg h117, if_pos h103])
        clear h103
        go_wp2
        go_round
        case rel => exact split_step s k v 56 hlt hv (by decide) Hf.out Hq Hn
        case measure => simp [intOf]; omega
      have t103 : (((s[k].toNat : Int) == 103) : Bool) = false := u8_false _ _ h103
      by_cases h111 : s[k] = 111
      · have t111 : (((s[k].toNat : Int) == 111) : Bool) = true := u8_true _ _ h111
        have Hf := Lib.hid (show clsOf s[k] = some 519 by unfold clsOf; rw [if_neg h117, if_neg h103, if_pos h111])
        clear h111
        go_wp2
        go_round
        case rel => exact split_step s k v 519 hlt hv (by decide) Hf.out Hq Hn
        case measure => simp [intOf]; omega
      have t111 : (((s[k].toNat : Int) == 111) : Bool) = false := u8_false _ _ h111
      by_cases h97 : s[k] = 97
      · have t97 : (((s[k].toNat : Int) == 97) : Bool) = true := u8_true _ _ h97
        have Hf := Lib.hid (show clsOf s[k] = some 3071 by unfold clsOf; rw [if_neg h117, if_neg h103, if_neg h111, if_pos h97])
        clear h97
        go_wp2
        go_round
        case rel => exact split_step s k v 3071 hlt hv (by decide) Hf.out Hq Hn
        case measure => simp [intOf]; omega
      have t97 : (((s[k].toNat : Int) == 97) : Bool) = false := u8_false _ _ h97
      have Hf := Lib.hid (show clsOf s[k] = none by unfold clsOf; rw [if_neg h117, if_neg h103, if_neg h111, if_neg h97])
      clear h117 h103 h111 h97
      by_cases h0 : k = 0
      · subst h0
        have z : (((0 : Int) == 0) : Bool) = true := rfl
        go_wp2
        go_quiet (fail)
        go_wp2
        go_ret2
        exact ⟨ret_val (by rw [split_none s hlt Hf.out]; rfl), nq, rfl⟩
      · have z : (((k : Int) == 0) : Bool) = false := by simpa using h0
        have h0' : 0 < k := by omega
        clear h0
        go_wp2
        go_quiet (fail)
        go_wp2
        go_ret2
        exact ⟨ret_val (by rw [Hq.out h0', ← Hn.out, takeF_stop _ s k v hlt Hf.out, extract_drop]; rfl), nq, rfl⟩
    · have he : splitS s.data.toList = takeF clsOf s.data.toList 0 := by
        by_cases h0 : 0 < k
        · exact Hq.out h0
        · exact split_nil s (by omega)
      have He := Lib.hid he; clear he
      go_wp2
      go_ret2
      refine ⟨?_, Dr.refl _⟩
      rw [He.out, ← Hn.out, takeF_end _ s k v (by omega)]
      rfl
end Go.Proofs.Ytmjjhoaplcjjcaa
