/- Contracts of the program's byteAt, begins, lastClose. -/
import Derived.Test.YtacohhmhggljhaaHC
namespace Go.Proofs.Ytacohhmhggljhaa
open Go.RowKit
set_option linter.unusedVariables false
set_option linter.unusedSimpArgs false
theorem drop_eq (s : ByteArray) (k : Nat) (h : k < s.size) : s.data.toList.drop k = s[k] :: s.data.toList.drop (k + 1) := by
  rw [List.drop_eq_getElem_cons (by simpa using h)]; rfl
theorem u8_true (c d : UInt8) (h : c = d) : (((c.toNat : Int) == (d.toNat : Int)) : Bool) = true := by rw [h]; simp
theorem u8_false (c d : UInt8) (h : ¬ c = d) : (((c.toNat : Int) == (d.toNat : Int)) : Bool) = false := by
  rw [beq_eq_false_iff_ne]; intro e; exact h (UInt8.toNat_inj.1 (by omega))
theorem u8_ne (c d : UInt8) (h : ¬ c = d) : (((c.toNat : Int) != (d.toNat : Int)) : Bool) = true := by rw [bne, u8_false _ _ h]; rfl
theorem u8_nn (c d : UInt8) (h : c = d) : (((c.toNat : Int) != (d.toNat : Int)) : Bool) = false := by rw [bne, u8_true _ _ h]; rfl
theorem size_len (s : ByteArray) : s.data.toList.length = s.size := by simp
theorem extract_mid (s : ByteArray) (a b : Nat) : (s.extract a b).data.toList = (s.data.toList.drop a).take (b - a) := by
  rw [ByteArray.data_extract, Array.toList_extract]
theorem tok_at (s : ByteArray) (k : Nat) (h : k < s.size) :
    (∃ h2 : k + 1 < s.size, s[k] = 92 ∧ toks (s.data.toList.drop k) = (s[k + 1], true) :: toks (s.data.toList.drop (k + 2))) ∨
    ((s[k] = 92 → s.size ≤ k + 1) ∧ toks (s.data.toList.drop k) = (s[k], false) :: toks (s.data.toList.drop (k + 1))) := by
  rw [drop_eq s k h]
  by_cases h2 : k + 1 < s.size
  · by_cases h9 : s[k] = 92
    · refine .inl ⟨h2, h9, ?_⟩
      rw [drop_eq s (k + 1) h2, h9, toks_two]
    · exact .inr ⟨fun e => absurd e h9, toks_one _ _ fun e => absurd e h9⟩
  · exact .inr ⟨fun _ => by omega, toks_one _ _ fun _ => List.drop_eq_nil_of_le (by rw [size_len]; omega)⟩
theorem toks_end (s : ByteArray) (k : Nat) (h : s.size ≤ k) : toks (s.data.toList.drop k) = [] := by
  rw [List.drop_eq_nil_of_le (by rw [size_len]; omega)]; rfl
/-- the tokens from a place on. -/
def At (s : ByteArray) (k : Nat) (ts : List Tok) : Prop := k ≤ s.size ∧ toks (s.data.toList.drop k) = ts
theorem At.lt {s : ByteArray} {k : Nat} {t : Tok} {r : List Tok} (h : At s k (t :: r)) : k < s.size := by
  refine Nat.lt_of_not_le fun hn => ?_
  have := h.2
  rw [toks_end s k hn] at this
  cases this
theorem At.next {s : ByteArray} {k : Nat} {t : Tok} {r : List Tok} (h : At s k (t :: r)) : At s (k + tl t) r := by
  have hl := h.lt
  rcases tok_at s k hl with ⟨h2, h9, e⟩ | ⟨h9, e⟩ <;> rw [h.2] at e <;> injection e with e1 e2 <;> subst e1
  · exact ⟨by simp [tl]; omega, e2.symm⟩
  · exact ⟨by simp [tl]; omega, e2.symm⟩
theorem At.end {s : ByteArray} {k : Nat} (h : At s k []) : k = s.size := by
  have h1 := toks_nil h.2
  have h2 := congrArg List.length h1
  have h3 := h.1
  rw [List.length_drop, size_len] at h2
  simp at h2
  omega
theorem byteAt_any (s : ByteArray) (k : Nat) (t : Tok) (r : List Tok) (h : At s k (t :: r)) (hs : s.size ≤ maxLen) (w : World) :
    Calls Try.prog 25 #[.string s, .int .i64 k] w fun e w' => e = .returned (.tuple #[.int .u8 t.1.toNat, .int .i64 (tl t)]) ∧ w = w' := by
  unfold maxLen at hs
  have hl := h.lt
  rcases tok_at s k hl with ⟨h2, h9, e⟩ | ⟨h9, e⟩ <;> rw [h.2] at e <;> injection e with e1 e2 <;> subst e1
  · have g : (((s[k].toNat : Int) == 92) : Bool) = true := u8_true s[k] 92 h9
    clear h e2 h9
    go_enter Try.func25, Try.ntmps25
    go_wp2
    go_ret2
    exact ⟨rfl, rfl⟩
  · by_cases h92 : s[k] = 92
    · have h3 := h9 h92
      have g : (((s[k].toNat : Int) == 92) : Bool) = true := u8_true s[k] 92 h92
      clear h e2 h9 h92
      go_enter Try.func25, Try.ntmps25
      go_wp2
      go_ret2
      exact ⟨rfl, rfl⟩
    · have g : (((s[k].toNat : Int) == 92) : Bool) = false := u8_false s[k] 92 h92
      clear h e2 h9 h92
      go_enter Try.func25, Try.ntmps25
      go_wp2
      go_ret2
      exact ⟨rfl, rfl⟩
theorem beg_short (s t : List UInt8) (h : s.length < t.length) : beg s t = false := by
  unfold beg
  rw [Bool.eq_false_iff]
  intro e
  have := (List.isPrefixOf_iff_prefix.1 e).length_le
  omega
theorem beg_take (s t : List UInt8) : (s.take t.length == t) = beg s t := by
  rw [Bool.eq_iff_iff, beq_iff_eq]
  unfold beg
  rw [List.isPrefixOf_iff_prefix, List.prefix_iff_eq_take]
  exact ⟨fun h => h.symm, fun h => h.symm⟩
theorem begins_any (s t : ByteArray) (hs : s.size ≤ maxLen) (ht : t.size ≤ maxLen) (w : World) :
    Calls Try.prog 18 #[.string s, .string t] w fun e w' => e = .returned (.bool (beg s.data.toList t.data.toList)) ∧ w = w' := by
  unfold maxLen at hs ht
  by_cases h : t.size ≤ s.size
  · have HB := Lib.hid (beg_take s.data.toList t.data.toList)
    go_enter Try.func18, Try.ntmps18
    go_wp2
    go_ret
    refine ⟨ret_bool ?_, rfl⟩
    rw [ByteArray.toList_eq, ByteArray.toList_eq, extract_mid, List.drop_zero, Nat.sub_zero, ← size_len t]
    exact HB.out
  · have HB := Lib.hid (beg_short s.data.toList t.data.toList (by rw [size_len, size_len]; omega))
    go_enter Try.func18, Try.ntmps18
    go_wp2
    go_ret
    exact ⟨ret_bool HB.out.symm, rfl⟩
theorem lastClose_any (s : ByteArray) (hs : s.size ≤ maxLen) (w : World) :
    Calls Try.prog 27 #[.string s] w fun e w' => e = .returned (.int .i64 (lastI (toks s.data.toList))) ∧ w = w' := by
  have hs' := hs
  unfold maxLen at hs
  go_enter Try.func27, Try.ntmps27
  go_wp2
  go_loop [3, 4, 5, 6] (fun a i u v => ∃ (k : Nat) (pre ts : List Tok), i = .int .i64 k ∧ toks s.data.toList = pre ++ ts ∧ k = lenT pre ∧ At s k ts ∧ a = .int .i64 (lcF 0 (-1) pre)) (fun _ i _ _ => s.size - (intOf i).toNat)
  case atStart => exact ⟨0, [], toks s.data.toList, rfl, rfl, rfl, ⟨Nat.zero_le _, rfl⟩, rfl⟩
  case round =>
    obtain ⟨k, pre, ts, rfl, hp, hk, hat, rfl⟩ := hrel
    have hl1 := lcF_ge pre 0 (-1) (by omega)
    have hl2 := lcF_lt pre 0 (-1) (by omega)
    cases ts with
    | nil =>
      have he := hat.end
      have HP := Lib.hid (show lcF 0 (-1) pre = lastI (toks s.data.toList) by rw [hp, List.append_nil]; rfl)
      subst he
      clear hp hat hk hl1 hl2
      generalize lcF 0 (-1) pre = z at *
      go_wp2
      go_ret
      exact ⟨ret_int HP.out, rfl⟩
    | cons t r =>
      have hlt := hat.lt
      have hn := hat.next
      have HN := Lib.hid hn
      have HP := Lib.hid (show toks s.data.toList = (pre ++ [t]) ++ r by rw [hp]; simp)
      have hle := hn.1
      have htl := tl_pos t
      have HL := Lib.hid (show k + tl t = lenT (pre ++ [t]) by rw [lenT_append, hk]; rfl)
      have HC := Lib.hid (fun w => byteAt_any s k t r hat hs' w)
      have hbr : (s[k] = 93 ↔ t = (93, false)) := by
        rcases tok_at s k hlt with ⟨h2, h9, e⟩ | ⟨h9, e⟩ <;> rw [hat.2] at e <;> injection e with e1 e2 <;> subst e1
        · rw [h9]; simp
        · simp
      have HF := Lib.hid (show lcF 0 (-1) (pre ++ [t]) = if t = (93, false) then (k : Int) else lcF 0 (-1) pre by
        rw [lcF_append, hk]; simp [lcF])
      clear hn hp hat hk hs'
      generalize lcF 0 (-1) pre = z at *
      generalize hz2 : tl t = n at *
      by_cases h93 : s[k] = 93
      · have g : (((s[k].toNat : Int) == 93) : Bool) = true := u8_true s[k] 93 h93
        have HF2 := Lib.hid (show lcF 0 (-1) (pre ++ [t]) = (k : Int) by rw [HF.out, if_pos (hbr.1 h93)])
        clear hbr h93
        go_wp2_with (go_at_call 25; refine (HC.out _).mono ?_; rintro e w' ⟨rfl, rfl⟩)
        go_round
        case rel => exact ⟨k + n, pre ++ [t], r, by go_num, HP.out, HL.out, HN.out, by rw [HF2.out]⟩
        case measure => simp [intOf]; omega
      · have g : (((s[k].toNat : Int) == 93) : Bool) = false := u8_false s[k] 93 h93
        have HF2 := Lib.hid (show lcF 0 (-1) (pre ++ [t]) = z by rw [HF.out, if_neg (fun e => h93 (hbr.2 e))])
        clear hbr h93
        go_wp2_with (go_at_call 25; refine (HC.out _).mono ?_; rintro e w' ⟨rfl, rfl⟩)
        go_round
        case rel => exact ⟨k + n, pre ++ [t], r, by go_num, HP.out, HL.out, HN.out, by rw [HF2.out]⟩
        case measure => simp [intOf]; omega
end Go.Proofs.Ytacohhmhggljhaa
