/- Contracts of the document's Base and of both Joins. -/
import Derived.Test.YtiiomflffnmhnaaDoorW3
namespace Go.Proofs.YtiiomflffnmhnaaDoor
open Go.RowKit

theorem take_succ (s : ByteArray) (k : Nat) (h : k < s.size) : s.data.toList.take (k + 1) = s.data.toList.take k ++ [s[k]] := by
  rw [List.take_succ_eq_append_getElem (by simpa using h)]; rfl
theorem u8_ne (c d : UInt8) (h : ¬ c = d) : (((c.toNat : Int) != (d.toNat : Int)) : Bool) = true := by rw [bne, u8_false _ _ h]; rfl
theorem u8_nn (c d : UInt8) (h : c = d) : (((c.toNat : Int) != (d.toNat : Int)) : Bool) = false := by rw [bne, u8_true _ _ h]; rfl
theorem trim_step (l : List UInt8) : trimS (l ++ [47]) = trimS l := by
  unfold trimS Lib.trimRightB; simp
theorem trim_stop (l : List UInt8) (c : UInt8) (h : c ≠ 47) : trimS (l ++ [c]) = l ++ [c] := by
  unfold trimS Lib.trimRightB
  rw [List.reverse_append, List.reverse_singleton, List.singleton_append, List.dropWhile_cons, if_neg (by simpa using h)]
  simp
theorem up_step (l : List UInt8) (c : UInt8) (h : c ≠ 47) : upS (l ++ [c]) = upS l := by
  unfold upS
  rw [List.reverse_append, List.reverse_singleton, List.singleton_append, List.dropWhile_cons, if_pos (by simpa using h)]
theorem up_stop (l : List UInt8) : upS (l ++ [47]) = l ++ [47] := (tail_of l [] (fun c hc => by cases hc)).2
def trRel (s : ByteArray) (n : Value) : Prop := ∃ k : Nat, k ≤ s.size ∧ n = .int .i64 k ∧ trimS (s.data.toList.take k) = trimS s.data.toList
def upRel (s : ByteArray) (n : Nat) (i : Value) : Prop := ∃ k : Nat, k ≤ n ∧ i = .int .i64 k ∧ upS (s.data.toList.take k) = upS (s.data.toList.take n)
theorem base_fin (s : ByteArray) (n i : Nat) (hi : i ≤ n) (hn : n ≤ s.size) (h0 : 0 < n) (ht : trimS s.data.toList = s.data.toList.take n) (hu : upS (s.data.toList.take n) = s.data.toList.take i) :
    Value.tuple #[.string (s.extract 0 i), .string (s.extract i n)] = baseV s.data.toList := by
  have hl : (s.data.toList.take n).length = n := by rw [List.length_take, size_len]; omega
  have hil : (s.data.toList.take i).length = i := by rw [List.length_take, size_len]; omega
  have e2 : tailS (s.data.toList.take n) = (s.data.toList.take n).drop i := by
    rw [← drop_up, hu, hil]
  unfold baseV baseS
  rw [ht, if_neg (fun e => by rw [e] at hl; simp at hl; omega), hu, e2, extract_take, Lib.extract_eq, List.drop_take]
set_option maxHeartbeats 1600000 in
theorem refBase_any (s : ByteArray) (hs : s.size < 4611686018427387904) (w : World) :
    Calls Tryd.prog 15 #[.string s] w fun e w' => e = .returned (baseV s.data.toList) ∧ Dr w w' := by
  go_enter Tryd.func15, Tryd.ntmps15
  go_wp2
  go_loop [4] (fun n => trRel s n) (fun n => (intOf n).toNat)
  case atStart => exact ⟨s.size, Nat.le_refl _, rfl, by rw [List.take_of_length_le (by simp)]⟩
  case round =>
    obtain ⟨k, hk, rfl, hn⟩ := hrel
    have Hn := Lib.hid hn; clear hn
    by_cases h0 : 0 < k
    · obtain ⟨j, rfl⟩ : ∃ j, k = j + 1 := ⟨k - 1, by omega⟩
      by_cases hc : s[j] = 47
      · have h47 : (((s[j].toNat : Int) == 47) : Bool) = true := u8_true _ 47 hc
        have Hs := Lib.hid (show trimS (s.data.toList.take j) = trimS s.data.toList by rw [← Hn.out, take_succ s j (by omega), hc, trim_step])
        clear hc
        go_wp2
        go_round
        case rel => exact ⟨j, by omega, rfl, Hs.out⟩
        case measure => simp [intOf]
      · have h47 : (((s[j].toNat : Int) == 47) : Bool) = false := u8_false _ 47 hc
        have hz : (((j : Int) + 1 == 0) : Bool) = false := by rw [beq_eq_false_iff_ne]; omega
        have Ht := Lib.hid (show trimS s.data.toList = s.data.toList.take (j + 1) by rw [← Hn.out, take_succ s j (by omega), trim_stop _ _ hc])
        clear hc
        go_wp2
        go_loop [5] (fun i => upRel s (j + 1) i) (fun i => (intOf i).toNat)
        case atStart => exact ⟨j + 1, Nat.le_refl _, by go_num, rfl⟩
        case round =>
          obtain ⟨i, hi, rfl, hu⟩ := hrel
          have Hu := Lib.hid hu; clear hu
          by_cases hi0 : 0 < i
          · obtain ⟨p, rfl⟩ : ∃ p, i = p + 1 := ⟨i - 1, by omega⟩
            by_cases hc : s[p] = 47
            · have g47 : (((s[p].toNat : Int) != 47) : Bool) = false := u8_nn _ 47 hc
              have Hr := Lib.hid (base_fin s (j + 1) (p + 1) hi hk (by omega) Ht.out (by rw [← Hu.out, take_succ s p (by omega), hc, up_stop]))
              clear hc
              go_wp2
              go_quiet (fail)
              go_wp2
              go_ret2
              exact ⟨ret_val Hr.out, nq, rfl⟩
            · have g47 : (((s[p].toNat : Int) != 47) : Bool) = true := u8_ne _ 47 hc
              have Hs := Lib.hid (show upS (s.data.toList.take p) = upS (s.data.toList.take (j + 1)) by rw [← Hu.out, take_succ s p (by omega), up_step _ _ hc])
              clear hc
              go_wp2
              go_round
              case rel => exact ⟨p, by omega, by go_num, Hs.out⟩
              case measure => simp [intOf]
          · obtain rfl : i = 0 := by omega
            have hf := base_fin s (j + 1) 0 hi hk (by omega) Ht.out (by rw [← Hu.out]; rfl)
            rw [show s.extract 0 0 = ByteArray.empty by simp] at hf
            have Hr := Lib.hid hf
            clear hf
            go_wp2
            go_quiet (fail)
            go_wp2
            go_ret2
            exact ⟨ret_val Hr.out, nq, rfl⟩
    · obtain rfl : k = 0 := by omega
      have Hr := Lib.hid (show baseV s.data.toList = .tuple #[.string s, .string ⟨#[]⟩] by
        unfold baseV baseS; rw [if_pos (by rw [← Hn.out]; rfl)])
      go_wp2
      go_ret2
      exact ⟨ret_val Hr.out.symm, Dr.refl _⟩

theorem suffix_one (l : List UInt8) : Lib.hasSuffix l [47] = (l.getLast? == some 47) := by
  unfold Lib.hasSuffix
  rw [Bool.eq_iff_iff, List.isSuffixOf_iff_suffix, beq_iff_eq]
  constructor
  · rintro ⟨t, rfl⟩; simp
  · intro h
    obtain ⟨t, ht⟩ := List.getLast?_eq_some_iff.1 h
    exact ⟨t, ht.symm⟩
theorem app_str (a b : ByteArray) : a ++ b = ⟨(a.data.toList ++ b.data.toList).toArray⟩ := by
  apply ByteArray.ext
  rw [ByteArray.data_append]
  apply Array.toList_inj.1; simp
def strV (l : List UInt8) : Value := .string ⟨l.toArray⟩
theorem strV_self (s : ByteArray) : strV s.data.toList = .string s := rfl
theorem join_empty (s t : ByteArray) (h : s.data.toList = []) : strV (joinS s.data.toList t.data.toList) = .string t := by
  unfold joinS; rw [if_pos h]; rfl
theorem join_end (s t : ByteArray) (h : s.data.toList ≠ []) (hl : (s.data.toList.getLast? == some 47) = true) : strV (joinS s.data.toList t.data.toList) = .string (s ++ t) := by
  unfold joinS; rw [if_neg h, if_pos (beq_iff_eq.1 hl), app_str]; rfl
theorem join_mid (s t : ByteArray) (h : s.data.toList ≠ []) (hl : (s.data.toList.getLast? == some 47) = false) : strV (joinS s.data.toList t.data.toList) = .string (s ++ ⟨#[47]⟩ ++ t) := by
  unfold joinS; rw [if_neg h, if_neg (beq_eq_false_iff_ne.1 hl), app_str, app_str]
  unfold strV
  simp
set_option maxHeartbeats 800000 in
theorem join_any (s t : ByteArray) (hs : s.size ≤ 140737488351232) (ht : t.size ≤ 140737488351232) (w : World) :
    Calls Tryd.prog 18 #[.string s, .string t] w fun e w' => e = .returned (strV (joinS s.data.toList t.data.toList)) ∧ w = w' := by
  have hm : s.size ≤ 9223372036854775807 := by omega
  by_cases h : s.data.toList = []
  · have Hr := Lib.hid (join_empty s t h)
    have h0 : s = ⟨#[]⟩ := by have := str_eq (s := s) (l := []) (by rw [ByteArray.toList_eq, h]); exact this
    subst h0
    have Ha := Lib.hid (show (⟨#[]⟩ : ByteArray) ++ t = t by rw [app_str]; rfl)
    clear h
    go_enter Tryd.func18, Tryd.ntmps18
    go_wp2
    go_ret
    exact ⟨ret_val (by rw [Hr.out]; exact congrArg Value.string Ha.out), rfl⟩
  have he := isEmpty_no h
  cases hl : (s.data.toList.getLast? == some 47)
  · have Hr := Lib.hid (join_mid s t h hl)
    have Hl := Lib.hid (show Lib.hasSuffix s.data.toList (⟨#[47]⟩ : ByteArray).data.toList = false by rw [← hl]; exact suffix_one _)
    clear h hl
    go_enter Tryd.func18, Tryd.ntmps18
    go_wp2_with (go_at_call 27; refine (Tryd.strings_HasSuffix s ⟨#[47]⟩ _ hm).mono ?_; rintro e w' ⟨rfl, rfl⟩; rw [Hl.out])
    go_ret
    exact ⟨ret_val Hr.out.symm, rfl⟩
  · have Hr := Lib.hid (join_end s t h hl)
    have Hl := Lib.hid (show Lib.hasSuffix s.data.toList (⟨#[47]⟩ : ByteArray).data.toList = true by rw [← hl]; exact suffix_one _)
    clear h hl
    go_enter Tryd.func18, Tryd.ntmps18
    go_wp2_with (go_at_call 27; refine (Tryd.strings_HasSuffix s ⟨#[47]⟩ _ hm).mono ?_; rintro e w' ⟨rfl, rfl⟩; rw [Hl.out])
    go_ret
    exact ⟨ret_val Hr.out.symm, rfl⟩
theorem last_at (s : ByteArray) (h : 0 < s.size) : s.data.toList.getLast? = some s[s.size - 1] := by
  rw [List.getLast?_eq_getElem?, List.getElem?_eq_getElem (by simp; omega)]
  simp; rfl
set_option maxHeartbeats 800000 in
theorem refJoin_any (s t : ByteArray) (hs : s.size ≤ 140737488351232) (ht : t.size ≤ 140737488351232) (w : World) :
    Calls Tryd.prog 19 #[.string s, .string t] w fun e w' => e = .returned (strV (joinS s.data.toList t.data.toList)) ∧ w = w' := by
  by_cases h : s.data.toList = []
  · have Hr := Lib.hid (join_empty s t h)
    have he := isEmpty_of h
    clear h
    go_enter Tryd.func19, Tryd.ntmps19
    go_wp2
    go_ret
    exact ⟨ret_val Hr.out.symm, rfl⟩
  have he := isEmpty_no h
  have hp : 0 < s.size := by
    rcases Nat.eq_zero_or_pos s.size with h0 | h0
    · exact absurd (List.length_eq_zero_iff.1 (by rw [size_len]; exact h0)) h
    · exact h0
  have hlt : s.size - 1 < s.size := by omega
  have hla : s.data.toList.getLast? = some s[s.size - 1] := last_at s hp
  cases hl : (s.data.toList.getLast? == some 47)
  · have Hr := Lib.hid (join_mid s t h hl)
    have h47 : (((s[s.size - 1].toNat : Int) == 47) : Bool) = false := u8_false _ 47 (by rw [hla] at hl; simpa using hl)
    clear h hl hla
    go_enter Tryd.func19, Tryd.ntmps19
    go_wp2
    go_ret
    exact ⟨ret_val Hr.out.symm, rfl⟩
  · have Hr := Lib.hid (join_end s t h hl)
    have h47 : (((s[s.size - 1].toNat : Int) == 47) : Bool) = true := u8_true _ 47 (by rw [hla] at hl; simpa using hl)
    clear h hl hla
    go_enter Tryd.func19, Tryd.ntmps19
    go_wp2
    go_ret
    exact ⟨ret_val Hr.out.symm, rfl⟩
end Go.Proofs.YtiiomflffnmhnaaDoor
