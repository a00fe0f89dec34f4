/- Contracts of the document's member, Plain, Quote. -/
import Derived.Test.YtacohhmhggljhaaHN
namespace Go.Proofs.Ytacohhmhggljhaa
open Go.RowKit
set_option linter.unusedVariables false
set_option linter.unusedSimpArgs false
theorem rmember_any (s : ByteArray) (k : Nat) (t : Tok) (r : List Tok) (h : At s k (t :: r)) (hs : s.size ≤ 70368744177664) (w : World) :
    Calls Try.prog 33 #[.string s, .int .i64 k] w fun e w' => e = .returned (.tuple #[.int .u8 t.1.toNat, .int .i64 ((k : Int) + tl t)]) ∧ w = w' := by
  have hl := h.lt
  rcases tok_at s k hl with ⟨h2, h9, e⟩ | ⟨h9, e⟩ <;> rw [h.2] at e <;> injection e with e1 e2 <;> subst e1
  · have g : (((s[k].toNat : Int) == 92) : Bool) = true := u8_true s[k] 92 h9
    clear h e2 h9
    go_enter Try.func33, Try.ntmps33
    go_wp2
    go_ret2
    exact ⟨rfl, rfl⟩
  · by_cases h92 : s[k] = 92
    · have h3 := h9 h92
      have g : (((s[k].toNat : Int) == 92) : Bool) = true := u8_true s[k] 92 h92
      clear h e2 h9 h92
      go_enter Try.func33, Try.ntmps33
      go_wp2
      go_ret2
      exact ⟨rfl, rfl⟩
    · have g : (((s[k].toNat : Int) == 92) : Bool) = false := u8_false s[k] 92 h92
      clear h e2 h9 h92
      go_enter Try.func33, Try.ntmps33
      go_wp2
      go_ret2
      exact ⟨rfl, rfl⟩
theorem ext_one (s : ByteArray) (k : Nat) (h : k < s.size) : (s.extract k (k + 1)).data.toList = [s[k]] := by
  rw [extract_mid, drop_eq s k h, show k + 1 - k = 1 by omega]; rfl
theorem app_one (q s : ByteArray) (k : Nat) (h : k < s.size) : (q ++ s.extract k (k + 1)).data.toList = q.data.toList ++ [s[k]] := by
  rw [app_list, ext_one s k h]
theorem toks_short (s : ByteArray) (pre ts : List Tok) (h : toks s.data.toList = pre ++ ts) : pre.length ≤ s.size ∧ (∀ t r, ts = t :: r → pre.length + 1 ≤ s.size) := by
  have h1 := lenT_toks s.data.toList
  rw [h, size_len] at h1
  have h2 : ∀ ts : List Tok, ts.length ≤ lenT ts := by
    intro ts
    induction ts with
    | nil => simp [lenT]
    | cons t r ih => have := tl_pos t; rw [lenT, List.length_cons]; omega
  have h3 := h2 (pre ++ ts)
  rw [List.length_append] at h3
  exact ⟨by omega, fun t r e => by subst e; rw [List.length_cons] at h3; omega⟩
set_option maxHeartbeats 1000000 in
theorem rplain_any (s : ByteArray) (hs : s.size ≤ 70368744177664) (w : World) :
    Calls Try.prog 15 #[.string s] w fun e w' => (∃ q : ByteArray, e = .returned (.string q) ∧ q.data.toList = plainB s.data.toList) ∧ w = w' := by
  go_enter Try.func15, Try.ntmps15
  go_wp2
  go_loop [3, 4] (fun v i => ∃ (k : Nat) (pre ts : List Tok) (q : ByteArray), i = .int .i64 k ∧ v = .string q ∧ toks s.data.toList = pre ++ ts ∧ At s k ts ∧ q.data.toList = pre.map Prod.fst) (fun _ i => s.size - (intOf i).toNat)
  case atStart => exact ⟨0, [], toks s.data.toList, ⟨#[]⟩, rfl, rfl, rfl, ⟨Nat.zero_le _, rfl⟩, rfl⟩
  case round =>
    obtain ⟨k, pre, ts, q, rfl, rfl, hp, hat, hq⟩ := hrel
    have hqs : q.size = pre.length := by rw [← size_len, hq, List.length_map]
    have hsh := toks_short s pre ts hp
    cases ts with
    | nil =>
      have he := hat.end
      have HQ := Lib.hid (show q.data.toList = plainB s.data.toList by unfold plainB; rw [hp, List.append_nil, hq])
      subst he
      clear hp hat hq hsh
      go_wp2
      go_ret
      exact ⟨⟨q, rfl, HQ.out⟩, rfl⟩
    | cons t r =>
      have hlt := hat.lt
      have hn := hat.next
      have HN := Lib.hid hn
      have hle := hn.1
      have hsz := hsh.2 t r rfl
      have HP := Lib.hid (show toks s.data.toList = (pre ++ [t]) ++ r by rw [hp]; simp)
      have HA := Lib.hid (fun (a : Nat) (h : a < s.size) => app_one q s a h)
      have HM := Lib.hid (fun (c : UInt8) (e : c = t.1) => (show q.data.toList ++ [c] = (pre ++ [t]).map Prod.fst by rw [hq, List.map_append, e]; rfl))
      rcases tok_at s k hlt with ⟨h2, h9, e⟩ | ⟨h9, e⟩ <;> rw [hat.2] at e <;> injection e with e1 e2
      · have g : (((s[k].toNat : Int) == 92) : Bool) = true := u8_true s[k] 92 h9
        have HT := Lib.hid (show (s[k + 1] : UInt8) = t.1 by rw [e1])
        have HK := Lib.hid (show k + tl t = k + 2 by rw [e1]; rfl)
        clear hp hat hn hq hsh e1 e2 h9 hle
        go_wp2
        go_round
        case rel => exact ⟨k + 2, pre ++ [t], r, _, by go_num, rfl, HP.out, by rw [← HK.out]; exact HN.out, by rw [HA.out _ h2]; exact HM.out _ HT.out⟩
        case measure => simp [intOf]; omega
      · have HT := Lib.hid (show (s[k] : UInt8) = t.1 by rw [e1])
        have HK := Lib.hid (show k + tl t = k + 1 by rw [e1]; rfl)
        by_cases h92 : s[k] = 92
        · have h3 := h9 h92
          have g : (((s[k].toNat : Int) == 92) : Bool) = true := u8_true s[k] 92 h92
          clear hp hat hn hq hsh e1 e2 h9 hle h92
          go_wp2
          go_round
          case rel => exact ⟨k + 1, pre ++ [t], r, _, by go_num, rfl, HP.out, by rw [← HK.out]; exact HN.out, by rw [HA.out _ hlt]; exact HM.out _ HT.out⟩
          case measure => simp [intOf]; omega
        · have g : (((s[k].toNat : Int) == 92) : Bool) = false := u8_false s[k] 92 h92
          clear hp hat hn hq hsh e1 e2 h9 hle h92
          go_wp2
          go_round
          case rel => exact ⟨k + 1, pre ++ [t], r, _, by go_num, rfl, HP.out, by rw [← HK.out]; exact HN.out, by rw [HA.out _ hlt]; exact HM.out _ HT.out⟩
          case measure => simp [intOf]; omega
theorem spc_cases (c : UInt8) : (c = 42 ∨ c = 63 ∨ c = 91 ∨ c = 93 ∨ c = 33 ∨ c = 45 ∨ c = 92) ∨ (¬ c = 42 ∧ ¬ c = 63 ∧ ¬ c = 91 ∧ ¬ c = 93 ∧ ¬ c = 33 ∧ ¬ c = 45 ∧ ¬ c = 92) := by
  by_cases h1 : c = 42 <;> by_cases h2 : c = 63 <;> by_cases h3 : c = 91 <;> by_cases h4 : c = 93 <;> by_cases h5 : c = 33 <;> by_cases h6 : c = 45 <;> by_cases h7 : c = 92 <;> simp_all
set_option maxHeartbeats 1000000 in
theorem rquote_any (s : ByteArray) (hs : s.size ≤ 70368744177664) (w : World) :
    Calls Try.prog 17 #[.string s] w fun e w' => (∃ q : ByteArray, e = .returned (.string q) ∧ q.data.toList = quo s.data.toList) ∧ w = w' := by
  go_enter Try.func17, Try.ntmps17
  go_wp2
  go_loop [3, 4] (fun v i => ∃ (k : Nat) (q : ByteArray), i = .int .i64 k ∧ v = .string q ∧ k ≤ s.size ∧ q.data.toList = quo (s.data.toList.take k)) (fun _ i => s.size - (intOf i).toNat)
  case atStart => exact ⟨0, ⟨#[]⟩, rfl, rfl, Nat.zero_le _, rfl⟩
  case round =>
    obtain ⟨k, q, rfl, rfl, hk, hq⟩ := hrel
    have hqs : q.size ≤ 2 * k := by
      have := quo_len (s.data.toList.take k)
      rw [← hq, size_len, List.length_take] at this
      omega
    by_cases hlt : k < s.size
    · have HA := Lib.hid (fun (q : ByteArray) => app_one q s k hlt)
      have HT := Lib.hid (take_succ s k hlt)
      have HY := Lib.hid (fun (h : spc s[k] = true) => (show (q ++ ⟨#[92]⟩ ++ s.extract k (k + 1)).data.toList = quo (s.data.toList.take (k + 1)) by
        rw [HA.out, app_list, HT.out, quo_append, hq, quo, if_pos h]; simp [quo]))
      have HN := Lib.hid (fun (h : spc s[k] = false) => (show (q ++ s.extract k (k + 1)).data.toList = quo (s.data.toList.take (k + 1)) by
        rw [HA.out, HT.out, quo_append, hq, quo, if_neg (by rw [h]; decide)]; rfl))
      clear hq
      rcases spc_cases s[k] with (h | h | h | h | h | h | h) | ⟨h1, h2, h3, h4, h5, h6, h7⟩
      · have HQ := Lib.hid (HY.out (by rw [h]; rfl))
        have g42 : (((s[k].toNat : Int) == 42) : Bool) = true := u8_true _ 42 h
        clear HY HN h
        go_wp2
        go_round
        case rel => exact ⟨k + 1, _, by go_num, rfl, by omega, HQ.out⟩
        case measure => simp [intOf]; omega
      · have HQ := Lib.hid (HY.out (by rw [h]; rfl))
        have g42 : (((s[k].toNat : Int) == 42) : Bool) = false := u8_false _ 42 (by rw [h]; decide)
        have g63 : (((s[k].toNat : Int) == 63) : Bool) = true := u8_true _ 63 h
        clear HY HN h
        go_wp2
        go_round
        case rel => exact ⟨k + 1, _, by go_num, rfl, by omega, HQ.out⟩
        case measure => simp [intOf]; omega
      · have HQ := Lib.hid (HY.out (by rw [h]; rfl))
        have g42 : (((s[k].toNat : Int) == 42) : Bool) = false := u8_false _ 42 (by rw [h]; decide)
        have g63 : (((s[k].toNat : Int) == 63) : Bool) = false := u8_false _ 63 (by rw [h]; decide)
        have g91 : (((s[k].toNat : Int) == 91) : Bool) = true := u8_true _ 91 h
        clear HY HN h
        go_wp2
        go_round
        case rel => exact ⟨k + 1, _, by go_num, rfl, by omega, HQ.out⟩
        case measure => simp [intOf]; omega
      · have HQ := Lib.hid (HY.out (by rw [h]; rfl))
        have g42 : (((s[k].toNat : Int) == 42) : Bool) = false := u8_false _ 42 (by rw [h]; decide)
        have g63 : (((s[k].toNat : Int) == 63) : Bool) = false := u8_false _ 63 (by rw [h]; decide)
        have g91 : (((s[k].toNat : Int) == 91) : Bool) = false := u8_false _ 91 (by rw [h]; decide)
        have g93 : (((s[k].toNat : Int) == 93) : Bool) = true := u8_true _ 93 h
        clear HY HN h
        go_wp2
        go_round
        case rel => exact ⟨k + 1, _, by go_num, rfl, by omega, HQ.out⟩
        case measure => simp [intOf]; omega
      · have HQ := Lib.hid (HY.out (by rw [h]; rfl))
        have g42 : (((s[k].toNat : Int) == 42) : Bool) = false := u8_false _ 42 (by rw [h]; decide)
        have g63 : (((s[k].toNat : Int) == 63) : Bool) = false := u8_false _ 63 (by rw [h]; decide)
        have g91 : (((s[k].toNat : Int) == 91) : Bool) = false := u8_false _ 91 (by rw [h]; decide)
        have g93 : (((s[k].toNat : Int) == 93) : Bool) = false := u8_false _ 93 (by rw [h]; decide)
        have g33 : (((s[k].toNat : Int) == 33) : Bool) = true := u8_true _ 33 h
        clear HY HN h
        go_wp2
        go_round
        case rel => exact ⟨k + 1, _, by go_num, rfl, by omega, HQ.out⟩
        case measure => simp [intOf]; omega
      · have HQ := Lib.hid (HY.out (by rw [h]; rfl))
        have g42 : (((s[k].toNat : Int) == 42) : Bool) = false := u8_false _ 42 (by rw [h]; decide)
        have g63 : (((s[k].toNat : Int) == 63) : Bool) = false := u8_false _ 63 (by rw [h]; decide)
        have g91 : (((s[k].toNat : Int) == 91) : Bool) = false := u8_false _ 91 (by rw [h]; decide)
        have g93 : (((s[k].toNat : Int) == 93) : Bool) = false := u8_false _ 93 (by rw [h]; decide)
        have g33 : (((s[k].toNat : Int) == 33) : Bool) = false := u8_false _ 33 (by rw [h]; decide)
        have g45 : (((s[k].toNat : Int) == 45) : Bool) = true := u8_true _ 45 h
        clear HY HN h
        go_wp2
        go_round
        case rel => exact ⟨k + 1, _, by go_num, rfl, by omega, HQ.out⟩
        case measure => simp [intOf]; omega
      · have HQ := Lib.hid (HY.out (by rw [h]; rfl))
        have g42 : (((s[k].toNat : Int) == 42) : Bool) = false := u8_false _ 42 (by rw [h]; decide)
        have g63 : (((s[k].toNat : Int) == 63) : Bool) = false := u8_false _ 63 (by rw [h]; decide)
        have g91 : (((s[k].toNat : Int) == 91) : Bool) = false := u8_false _ 91 (by rw [h]; decide)
        have g93 : (((s[k].toNat : Int) == 93) : Bool) = false := u8_false _ 93 (by rw [h]; decide)
        have g33 : (((s[k].toNat : Int) == 33) : Bool) = false := u8_false _ 33 (by rw [h]; decide)
        have g45 : (((s[k].toNat : Int) == 45) : Bool) = false := u8_false _ 45 (by rw [h]; decide)
        have g92 : (((s[k].toNat : Int) == 92) : Bool) = true := u8_true _ 92 h
        clear HY HN h
        go_wp2
        go_round
        case rel => exact ⟨k + 1, _, by go_num, rfl, by omega, HQ.out⟩
        case measure => simp [intOf]; omega
      · have HQ := Lib.hid (HN.out (by unfold spc; simp [h1, h2, h3, h4, h5, h6, h7]))
        have g42 : (((s[k].toNat : Int) == 42) : Bool) = false := u8_false _ 42 h1
        have g63 : (((s[k].toNat : Int) == 63) : Bool) = false := u8_false _ 63 h2
        have g91 : (((s[k].toNat : Int) == 91) : Bool) = false := u8_false _ 91 h3
        have g93 : (((s[k].toNat : Int) == 93) : Bool) = false := u8_false _ 93 h4
        have g33 : (((s[k].toNat : Int) == 33) : Bool) = false := u8_false _ 33 h5
        have g45 : (((s[k].toNat : Int) == 45) : Bool) = false := u8_false _ 45 h6
        have g92 : (((s[k].toNat : Int) == 92) : Bool) = false := u8_false _ 92 h7
        clear HY HN h1 h2 h3 h4 h5 h6 h7
        go_wp2
        go_round
        case rel => exact ⟨k + 1, _, by go_num, rfl, by omega, HQ.out⟩
        case measure => simp [intOf]; omega
    · obtain rfl : k = s.size := by omega
      have HQ := Lib.hid (show q.data.toList = quo s.data.toList by rw [hq, List.take_of_length_le (by simp)])
      clear hq
      go_wp2
      go_ret
      exact ⟨⟨q, rfl, HQ.out⟩, rfl⟩
end Go.Proofs.Ytacohhmhggljhaa
