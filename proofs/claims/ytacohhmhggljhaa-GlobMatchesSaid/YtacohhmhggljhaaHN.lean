/- The laws GlobQuotes, GlobMarks, GlobSets: the walks. -/
import Derived.Test.YtacohhmhggljhaaHM
namespace Go.Proofs.Ytacohhmhggljhaa
open Go.RowKit
set_option linter.unusedVariables false
set_option linter.unusedSimpArgs false
theorem arr_list (l : List UInt8) : (⟨l.toArray⟩ : ByteArray).data.toList = l := rfl
theorem arr_size (l : List UInt8) : (⟨l.toArray⟩ : ByteArray).size = l.length := by
  rw [← size_len, arr_list]
theorem app_list (a b : ByteArray) : (a ++ b).data.toList = a.data.toList ++ b.data.toList := by
  rw [ByteArray.data_append, Array.toList_append]
theorem app_size (a b : ByteArray) : (a ++ b).size = a.size + b.size := ByteArray.size_append
set_option maxHeartbeats 1000000 in
theorem quotes_any (s t : ByteArray) (W : World) (hs : s.size ≤ maxLen) (ht : t.size ≤ maxLen) :
    Calls Try.prog 5 #[.string s, .string t] W fun e w' => e = .returned (.bool true) ∧ Below W.heap.size W w' := by
  unfold maxLen at hs ht
  have HS := Lib.hid shown_any
  by_cases h1 : 2000 < s.size
  · go_enter Try.func5, Try.ntmps5
    go_wp2_with (go_at_call 9; (with_reducible refine (HS.out _).mono ?_); rintro e w1 ⟨rfl, b1⟩)
    go_ret
    exact ⟨rfl, b1⟩
  · by_cases h2 : 2000 < t.size
    · go_enter Try.func5, Try.ntmps5
      go_wp2_with (go_at_call 9; (with_reducible refine (HS.out _).mono ?_); rintro e w1 ⟨rfl, b1⟩)
      go_ret
      exact ⟨rfl, b1⟩
    · have hq := quo_len s.data.toList
      rw [size_len] at hq
      obtain ⟨q, hqd⟩ : ∃ q : ByteArray, (⟨(quo s.data.toList).toArray⟩ : ByteArray) = q := ⟨_, rfl⟩
      have hql : q.data.toList = quo s.data.toList := by rw [← hqd]
      have hqs : q.size ≤ 4000 := by rw [← size_len, hql]; omega
      have CQ := Lib.hid (fun w => (show Calls Try.prog 16 #[.string s] w fun e w' => e = .returned (.string q) ∧ Below w.heap.size w w' from by
        have := quote_any s (by omega) w
        rw [hqd] at this
        exact this))
      clear hqd hq
      have C1 := Lib.hid (fun w => (show Calls Try.prog 10 #[.string q, .string t, .bool false] w fun e w' => e = .returned (.bool (s.toList == t.toList)) ∧ Below w.heap.size w w' from by
        have := match_any q t false (by omega) (by omega) w
        rw [hql, quo_match, ← ByteArray.toList_eq, ← ByteArray.toList_eq] at this
        exact this))
      have C2 := Lib.hid (fun w => (show Calls Try.prog 10 #[.string q, .string s, .bool true] w fun e w' => e = .returned (.bool true) ∧ Below w.heap.size w w' from by
        have := match_any q s true (by omega) (by omega) w
        rw [hql, quo_dot] at this
        exact this))
      have C3 := Lib.hid (fun w => (show Calls Try.prog 12 #[.string q] w fun e w' => e = .returned (.bool false) ∧ Below w.heap.size w w' from by
        have := hasB_any q (by omega) w
        rw [hql, quo_has] at this
        exact this))
      have C4 := Lib.hid (fun w => (show Calls Try.prog 14 #[.string q] w fun e w' => e = .returned (.string s) ∧ Below w.heap.size w w' from by
        have := plain_any q (by omega) w
        rw [hql, quo_plain] at this
        exact this))
      clear hql
      go_enter Try.func5, Try.ntmps5
      go_wp2_with (first
        | (go_at_call 9; (with_reducible refine (HS.out _).mono ?_); rintro e w1 ⟨rfl, b1⟩)
        | (go_at_call 16; (with_reducible refine (CQ.out _).mono ?_); rintro e w2 ⟨rfl, b2⟩)
        | (go_at_call 10; (with_reducible refine (C2.out _).mono ?_); rintro e w6 ⟨rfl, b6⟩)
        | (go_at_call 10; (with_reducible refine (C1.out _).mono ?_); rintro e w3 ⟨rfl, b3⟩)
        | (go_at_call 12; (with_reducible refine (C3.out _).mono ?_); rintro e w4 ⟨rfl, b4⟩)
        | (go_at_call 14; (with_reducible refine (C4.out _).mono ?_); rintro e w5 ⟨rfl, b5⟩))
      go_ret
      exact ⟨ret_bool (by simp), nxt b1 (nxt b2 (nxt b3 (nxt b4 (nxt b5 b6))))⟩
def bAnd (m : Int) : Int := bits BinOp.and IntKind.i64 m 63
theorem and_63 (m : Int) : ∃ k : Nat, k ≤ 63 ∧ bits BinOp.and IntKind.i64 m 63 = (k : Int) := by
  refine ⟨(m % 18446744073709551616).toNat &&& 63, Nat.and_le_right, ?_⟩
  show IntKind.i64.wrap ((BitVec.ofInt 64 m &&& BitVec.ofInt 64 ((63 : Nat) : Int)).toNat : Int) = _
  rw [BitVec.toNat_and, BitVec.toNat_ofInt, BitVec.toNat_ofInt]
  have h : (m % 18446744073709551616).toNat &&& 63 ≤ 63 := Nat.and_le_right
  show IntKind.i64.wrap (((m % 18446744073709551616).toNat &&& 63 : Nat) : Int) = _
  rw [IntKind.wrap_i64]; omega
set_option maxHeartbeats 1000000 in
theorem marks_any (s : ByteArray) (n : Int) (W : World) (hs0 : s.size ≤ maxLen) (hn : (Lit.int .i64 n).wf = true) (hs : s.size ≤ 140737488351232) :
    Calls Try.prog 8 #[.string s, .int .i64 n] W fun e w' => e = .returned (.bool true) ∧ Below W.heap.size W w' := by
  have HS := Lib.hid shown_any
  obtain ⟨k, hk, he⟩ := and_63 n
  clear hn hs0
  go_enter Try.func8, Try.ntmps8
  go_wp2_with (go_at_call 9; (with_reducible refine (HS.out _).mono ?_); rintro e w1 ⟨rfl, b1⟩)
  clear he
  go_loop [6, 7] (fun p i => ∃ j : Nat, j ≤ k ∧ i = .int .i64 j ∧ ∃ q : ByteArray, p = .string q ∧ q.data.toList = List.replicate j 63) (fun _ i => k - (intOf i).toNat)
  case atStart => exact ⟨0, Nat.zero_le _, rfl, ⟨#[]⟩, rfl, rfl⟩
  case round =>
    obtain ⟨j, hj, rfl, q, rfl, hq⟩ := hrel
    have hqs : q.size = j := by rw [← size_len, hq, List.length_replicate]
    have HQ := Lib.hid hq
    by_cases hlt : j < k
    · have HN := Lib.hid (show (q ++ ⟨#[63]⟩).data.toList = List.replicate (j + 1) 63 by rw [app_list, hq, List.replicate_succ'])
      clear hq
      go_wp2
      go_round
      case rel => exact ⟨j + 1, by omega, by go_num, _, rfl, HN.out⟩
      case measure => simp [intOf]; omega
    · obtain rfl : j = k := by omega
      have C1 := Lib.hid (fun w => (show Calls Try.prog 10 #[.string q, .string s, .bool false] w fun e w' => e = .returned (.bool ((s.size : Int) == (j : Int))) ∧ Below w.heap.size w w' from by
        have := match_any q s false (by omega) (by omega) w
        rw [hq, marks_one, size_len] at this
        rw [show ((s.size : Int) == (j : Int)) = decide (s.size = j) by rw [Bool.eq_iff_iff, beq_iff_eq, decide_eq_true_eq]; omega]
        exact this))
      have C2 := Lib.hid (fun w => (show Calls Try.prog 10 #[.string (q ++ ⟨#[42]⟩), .string s, .bool false] w fun e w' => e = .returned (.bool (decide (j ≤ s.size))) ∧ Below w.heap.size w w' from by
        have := match_any (q ++ ⟨#[42]⟩) s false (by rw [app_size]; show q.size + 1 ≤ _; omega) (by omega) w
        rw [app_list, hq, show (⟨#[42]⟩ : ByteArray).data.toList = [42] from rfl, marks_star, size_len] at this
        exact this))
      have C3 := Lib.hid (fun w => (show Calls Try.prog 10 #[.string (⟨#[42]⟩ ++ q), .string s, .bool false] w fun e w' => e = .returned (.bool (decide (j ≤ s.size))) ∧ Below w.heap.size w w' from by
        have := match_any (⟨#[42]⟩ ++ q) s false (by rw [app_size]; show 1 + q.size ≤ _; omega) (by omega) w
        rw [app_list, hq, show (⟨#[42]⟩ : ByteArray).data.toList = [42] from rfl, List.singleton_append, star_marks, size_len] at this
        exact this))
      clear hq
      go_wp2_with (first
        | (go_at_call 10; (with_reducible refine (C3.out _).mono ?_); rintro e w4 ⟨rfl, b4⟩)
        | (go_at_call 10; (with_reducible refine (C2.out _).mono ?_); rintro e w3 ⟨rfl, b3⟩)
        | (go_at_call 10; (with_reducible refine (C1.out _).mono ?_); rintro e w2 ⟨rfl, b2⟩))
      go_ret
      exact ⟨ret_bool (by simp), nxt b1 (nxt b2 (nxt b3 b4))⟩
theorem conv_new (c : UInt8) (w : World) : (convert 29 9 (.slice (some ⟨w.heap.size, 0, none⟩) 1 1)).run Try.prog (w.alloc (.cells #[.int .u8 (c.toNat : Int)] 5)) = .ok (.string ⟨#[c]⟩) (w.alloc (.cells #[.int .u8 (c.toNat : Int)] 5)) :=
  run_convert_bytes_back (P := Try.prog) _ 29 9 5 ⟨w.heap.size, 0, none⟩ 1 [c] Try.underlying29 Try.underlying5 Try.underlying9 (fun j hj => by
      obtain rfl : j = 0 := by simp at hj; exact hj
      exact cell_byte_new w _ _ 0 _ rfl)
theorem isE_nil {s : ByteArray} (h : s.data.toList = []) : s.toList.isEmpty = true := by rw [ByteArray.toList_eq, h]; rfl
set_option maxHeartbeats 2000000 in
set_option maxRecDepth 100000 in
theorem sets_any (m : ByteArray) (a1 : Int) (W : World) (hm : m.size ≤ maxLen) (ha : (Lit.int .u8 a1).wf = true) :
    Calls Try.prog 7 #[.string m, .int .u8 a1] W fun e w' => e = .returned (.bool true) ∧ Below W.heap.size W w' := by
  have HS := Lib.hid shown_any
  unfold maxLen at hm
  obtain ⟨c, rfl⟩ : ∃ c : UInt8, a1 = c.toNat := by
    have h2 : 0 ≤ a1 ∧ a1 ≤ 255 := by simpa [Lit.wf, IntKind.min, IntKind.max, IntKind.signed, IntKind.bits] using ha
    exact ⟨UInt8.ofNat a1.toNat, by rw [ofNat_nat (by omega)]; omega⟩
  clear ha
  cases hl : m.data.toList with
  | nil =>
    have he := isE_nil hl
    clear hl
    go_enter Try.func7, Try.ntmps7
    go_wp2_with (go_at_call 9; (with_reducible refine (HS.out _).mono ?_); rintro e w1 ⟨rfl, b1⟩)
    go_ret
    exact ⟨rfl, b1⟩
  | cons d l =>
    have he : m.toList.isEmpty = false := by rw [ByteArray.toList_eq, hl]; rfl
    by_cases h2 : 200 < m.size
    · clear hl
      go_enter Try.func7, Try.ntmps7
      go_wp2_with (go_at_call 9; (with_reducible refine (HS.out _).mono ?_); rintro e w1 ⟨rfl, b1⟩)
      go_ret
      exact ⟨rfl, b1⟩
    · have hq := quo_len m.data.toList
      rw [size_len] at hq
      obtain ⟨q, hqd⟩ : ∃ q : ByteArray, (⟨(quo m.data.toList).toArray⟩ : ByteArray) = q := ⟨_, rfl⟩
      have hql : q.data.toList = quo m.data.toList := by rw [← hqd]
      have hqs : q.size ≤ 400 := by rw [← size_len, hql]; omega
      have CQ := Lib.hid (fun w => (show Calls Try.prog 16 #[.string m] w fun e w' => e = .returned (.string q) ∧ Below w.heap.size w w' from by
        have := quote_any m (by omega) w
        rw [hqd] at this
        exact this))
      clear hqd hq
      have hp1 : (⟨#[91]⟩ ++ q ++ ⟨#[93]⟩ : ByteArray).data.toList = 91 :: (quo (d :: l) ++ [93]) := by
        rw [app_list, app_list, hql, hl]; rfl
      have hp2 : (⟨#[91, 33]⟩ ++ q ++ ⟨#[93]⟩ : ByteArray).data.toList = 91 :: 33 :: (quo (d :: l) ++ [93]) := by
        rw [app_list, app_list, hql, hl]; rfl
      have hz1 : (⟨#[91]⟩ ++ q ++ ⟨#[93]⟩ : ByteArray).size ≤ 402 := by rw [app_size, app_size]; show 1 + q.size + 1 ≤ _; omega
      have hz2 : (⟨#[91, 33]⟩ ++ q ++ ⟨#[93]⟩ : ByteArray).size ≤ 403 := by rw [app_size, app_size]; show 2 + q.size + 1 ≤ _; omega
      obtain ⟨is, his⟩ : ∃ is : Bool, (d :: l).any (· == c) = is := ⟨_, rfl⟩
      have C1 := Lib.hid (fun w => (show Calls Try.prog 10 #[.string (⟨#[91]⟩ ++ q ++ ⟨#[93]⟩), .string ⟨#[c]⟩, .bool false] w fun e w' => e = .returned (.bool is) ∧ Below w.heap.size w w' from by
        have := match_any (⟨#[91]⟩ ++ q ++ ⟨#[93]⟩) ⟨#[c]⟩ false (by omega) (show 1 ≤ _ by decide) w
        rw [hp1, show (⟨#[c]⟩ : ByteArray).data.toList = [c] from rfl, set_one, his] at this
        exact this))
      have C2 := Lib.hid (fun w => (show Calls Try.prog 10 #[.string (⟨#[91, 33]⟩ ++ q ++ ⟨#[93]⟩), .string ⟨#[c]⟩, .bool false] w fun e w' => e = .returned (.bool (!is)) ∧ Below w.heap.size w w' from by
        have := match_any (⟨#[91, 33]⟩ ++ q ++ ⟨#[93]⟩) ⟨#[c]⟩ false (by omega) (show 1 ≤ _ by decide) w
        rw [hp2, show (⟨#[c]⟩ : ByteArray).data.toList = [c] from rfl, set_not, his] at this
        exact this))
      have C3 := Lib.hid (fun w => (show Calls Try.prog 10 #[.string (⟨#[91]⟩ ++ q ++ ⟨#[93]⟩), .string (⟨#[c]⟩ ++ ⟨#[c]⟩), .bool false] w fun e w' => e = .returned (.bool false) ∧ Below w.heap.size w w' from by
        have := match_any (⟨#[91]⟩ ++ q ++ ⟨#[93]⟩) (⟨#[c]⟩ ++ ⟨#[c]⟩) false (by omega) (by rw [app_size]; show 1 + 1 ≤ _; decide) w
        rw [hp1, app_list, show (⟨#[c]⟩ : ByteArray).data.toList ++ (⟨#[c]⟩ : ByteArray).data.toList = [c, c] from rfl, set_two] at this
        exact this))
      have C4 := Lib.hid (fun w => (show Calls Try.prog 10 #[.string (⟨#[91]⟩ ++ q ++ ⟨#[93]⟩), .string ⟨#[]⟩, .bool false] w fun e w' => e = .returned (.bool false) ∧ Below w.heap.size w w' from by
        have := match_any (⟨#[91]⟩ ++ q ++ ⟨#[93]⟩) ⟨#[]⟩ false (by omega) (by decide) w
        rw [hp1, show (⟨#[]⟩ : ByteArray).data.toList = [] from rfl, set_nil] at this
        exact this))
      have C5 := Lib.hid (fun w => (show Calls Try.prog 12 #[.string (⟨#[91]⟩ ++ q ++ ⟨#[93]⟩)] w fun e w' => e = .returned (.bool true) ∧ Below w.heap.size w w' from by
        have := hasB_any (⟨#[91]⟩ ++ q ++ ⟨#[93]⟩) (by omega) w
        rw [hp1, set_has] at this
        exact this))
      have HL := Lib.hid (show m.data.toList.any (· == c) = is by rw [hl]; exact his)
      clear hql hp1 hp2 hz1 hz2 his hl
      go_enter Try.func7, Try.ntmps7
      go_wp2_with (first
        | (go_at_call 9; (with_reducible refine (HS.out _).mono ?_); rintro e w1 ⟨rfl, b1⟩)
        | (go_at_call 16; (with_reducible refine (CQ.out _).mono ?_); rintro e w2 ⟨rfl, b2⟩))
      go_loop [7, 8] (fun b i => ∃ k : Nat, k ≤ m.size ∧ i = .int .i64 k ∧ b = .bool ((m.data.toList.take k).any (· == c))) (fun _ i => m.size - (intOf i).toNat)
      case atStart => exact ⟨0, Nat.zero_le _, rfl, rfl⟩
      case round =>
        obtain ⟨k, hk, rfl, rfl⟩ := hrel
        by_cases hlt : k < m.size
        · have HT := Lib.hid (show (m.data.toList.take (k + 1)).any (· == c) = ((m.data.toList.take k).any (· == c) || m[k] == c) by rw [take_succ m k hlt, List.any_append]; simp)
          cases ht : (m.data.toList.take k).any (· == c)
          · rw [ht] at HT
            by_cases hc : m[k] = c
            · have g : (((m[k].toNat : Int) == (c.toNat : Int)) : Bool) = true := u8_true _ _ hc
              have HT2 := Lib.hid (show (m.data.toList.take (k + 1)).any (· == c) = true by rw [HT.out, hc]; simp)
              clear hc ht
              go_wp2
              go_round
              case rel => exact ⟨k + 1, by omega, by go_num, by rw [HT2.out]⟩
              case measure => simp [intOf]; omega
            · have g : (((m[k].toNat : Int) == (c.toNat : Int)) : Bool) = false := u8_false _ _ hc
              have HT2 := Lib.hid (show (m.data.toList.take (k + 1)).any (· == c) = false by rw [HT.out, beq_eq_false_iff_ne.2 hc]; rfl)
              clear hc ht
              go_wp2
              go_round
              case rel => exact ⟨k + 1, by omega, by go_num, by rw [HT2.out]⟩
              case measure => simp [intOf]; omega
          · have HT2 := Lib.hid (show (m.data.toList.take (k + 1)).any (· == c) = true by rw [HT.out, ht]; rfl)
            clear ht
            go_wp2
            go_round
            case rel => exact ⟨k + 1, by omega, by go_num, by rw [HT2.out]⟩
            case measure => simp [intOf]; omega
        · obtain rfl : k = m.size := by omega
          rw [show (m.data.toList.take m.size).any (· == c) = is by rw [List.take_of_length_le (by simp)]; exact HL.out]
          have hcv := conv_new c w2
          go_wp2_with (first
            | (go_at_call 12; (with_reducible refine (C5.out _).mono ?_); rintro e w7 ⟨rfl, b7⟩)
            | (go_at_call 10; (with_reducible refine (C4.out _).mono ?_); rintro e w6 ⟨rfl, b6⟩)
            | (go_at_call 10; (with_reducible refine (C3.out _).mono ?_); rintro e w5 ⟨rfl, b5⟩)
            | (go_at_call 10; (with_reducible refine (C2.out _).mono ?_); rintro e w4 ⟨rfl, b4⟩)
            | (go_at_call 10; (with_reducible refine (C1.out _).mono ?_); rintro e w3 ⟨rfl, b3⟩))
          go_ret
          have ba := (Below.refl w2.heap.size w2).alloc (Nat.le_refl _) (.cells #[.int .u8 (c.toNat : Int)] 5)
          exact ⟨ret_bool (by simp), nxt b1 (nxt b2 (nxt ba (nxt b3 (nxt b4 (nxt b5 (nxt b6 b7))))))⟩
end Go.Proofs.Ytacohhmhggljhaa
