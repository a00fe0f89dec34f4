/- Contracts of endsAsDir, Base and the document's answer. -/
import Derived.Test.YtiiomflffnmhnaaDoorW2
import Derived.Test.YtiiomflffnmhnaaDoorS2
namespace Go.Proofs.YtiiomflffnmhnaaDoor
open Go.RowKit

theorem isEmpty_of {t : ByteArray} (h : t.data.toList = []) : t.toList.isEmpty = true := by rw [ByteArray.toList_eq, h]; rfl
theorem isEmpty_no {t : ByteArray} (h : t.data.toList ≠ []) : t.toList.isEmpty = false := by
  rw [ByteArray.toList_eq]; cases hh : t.data.toList with
  | nil => exact absurd hh h
  | cons a b => rfl
theorem tail_str (s : ByteArray) : s.extract (upS s.data.toList).length s.size = ⟨(tailS s.data.toList).toArray⟩ := by
  rw [extract_drop, drop_up]
theorem up_str (s : ByteArray) : s.extract 0 (upS s.data.toList).length = ⟨(upS s.data.toList).toArray⟩ := by
  rw [extract_take, take_up]
theorem toL (l : List UInt8) : (⟨l.toArray⟩ : ByteArray).toList = l := by rw [ByteArray.toList_eq]
set_option maxHeartbeats 800000 in
theorem ends_any (s : ByteArray) (hs : s.size < 4611686018427387904) (w : World) :
    Calls Tryd.prog 23 #[.string s] w fun e w' => e = .returned (.bool (dirP s.data.toList)) ∧ w = w' := by
  have hm := hs
  obtain ⟨q, hq⟩ : ∃ q : Nat, (upS s.data.toList).length = q := ⟨_, rfl⟩
  have hqs : q ≤ s.size := by have := up_len s.data.toList; rw [size_len] at this; omega
  have Hi := Lib.hid (show Lib.lastIndexByte s 47 = (q : Int) - 1 by rw [lastIdx_up, hq])
  have ht : (s.extract q s.size).toList = tailS s.data.toList := by rw [← hq, tail_str, toL]
  cases h0 : (s.extract q s.size).toList.isEmpty
  · cases h1 : ((s.extract q s.size).toList == [46])
    · cases h2 : ((s.extract q s.size).toList == [46, 46])
      · have Hr := Lib.hid (show dirP s.data.toList = false by
          unfold dirP; rw [lastP_tail, ← ht, h1, h2]
          rw [List.isEmpty_eq_false_iff] at h0
          simpa using h0)
        clear ht hq
        go_enter Tryd.func23, Tryd.ntmps23
        go_wp2_with (go_at_call 25; refine (Tryd.strings_LastIndexByte s 47 hm _).mono ?_; rintro e w' ⟨rfl, rfl⟩; rw [Hi.out])
        go_ret
        exact ⟨ret_bool Hr.out.symm, rfl⟩
      · have Hr := Lib.hid (show dirP s.data.toList = true by
          unfold dirP; rw [lastP_tail, ← ht, h2, Bool.or_true, Bool.or_true])
        clear ht hq
        go_enter Tryd.func23, Tryd.ntmps23
        go_wp2_with (go_at_call 25; refine (Tryd.strings_LastIndexByte s 47 hm _).mono ?_; rintro e w' ⟨rfl, rfl⟩; rw [Hi.out])
        go_ret
        exact ⟨ret_bool Hr.out.symm, rfl⟩
    · have Hr := Lib.hid (show dirP s.data.toList = true by
        unfold dirP; rw [lastP_tail, ← ht, h1, Bool.true_or, Bool.or_true])
      clear ht hq
      go_enter Tryd.func23, Tryd.ntmps23
      go_wp2_with (go_at_call 25; refine (Tryd.strings_LastIndexByte s 47 hm _).mono ?_; rintro e w' ⟨rfl, rfl⟩; rw [Hi.out])
      go_ret
      exact ⟨ret_bool Hr.out.symm, rfl⟩
  · have Hr := Lib.hid (show dirP s.data.toList = true by
      unfold dirP; rw [lastP_tail, ← ht, List.isEmpty_iff.1 h0]; rfl)
    clear ht hq
    go_enter Tryd.func23, Tryd.ntmps23
    go_wp2_with (go_at_call 25; refine (Tryd.strings_LastIndexByte s 47 hm _).mono ?_; rintro e w' ⟨rfl, rfl⟩; rw [Hi.out])
    go_ret
    exact ⟨ret_bool Hr.out.symm, rfl⟩

def baseV (l : List UInt8) : Value := .tuple #[.string ⟨(baseS l).1.toArray⟩, .string ⟨(baseS l).2.toArray⟩]
theorem trim_len (l : List UInt8) : (trimS l).length ≤ l.length := by
  obtain ⟨k, h, _⟩ := trim_split l
  have := congrArg List.length h
  rw [List.length_append] at this; omega
set_option maxHeartbeats 800000 in
theorem base_any (s : ByteArray) (hs : s.size < 4611686018427387904) (w : World) :
    Calls Tryd.prog 14 #[.string s] w fun e w' => e = .returned (baseV s.data.toList) ∧ Dr w w' := by
  have hm : s.size ≤ 9223372036854775807 := by omega
  obtain ⟨t, ht⟩ : ∃ t : ByteArray, (⟨(Lib.trimRightB s.data.toList 47).toArray⟩ : ByteArray) = t := ⟨_, rfl⟩
  have htl : t.data.toList = trimS s.data.toList := by rw [← ht]; rfl
  have hts : t.size ≤ s.size := by have := trim_len s.data.toList; rw [← htl, size_len, size_len] at this; exact this
  have Ht := Lib.hid ht
  clear ht
  by_cases h0 : t.data.toList = []
  · have he := isEmpty_of h0
    have Hr := Lib.hid (show baseV s.data.toList = .tuple #[.string s, .string ⟨#[]⟩] by
      unfold baseV baseS; rw [if_pos (by rw [← htl, h0])])
    clear htl h0
    go_enter Tryd.func14, Tryd.ntmps14
    go_wp2_with (go_at_call 24; refine (Tryd.strings_TrimRight_one s 47 (by decide) _ hm).mono ?_; rintro e w' ⟨rfl, rfl⟩; rw [Ht.out])
    go_ret2
    exact ⟨ret_val Hr.out.symm, Dr.refl _⟩
  · have he := isEmpty_no h0
    obtain ⟨q, hq⟩ : ∃ q : Nat, (upS t.data.toList).length = q := ⟨_, rfl⟩
    have hqs : q ≤ t.size := by have := up_len t.data.toList; rw [size_len] at this; omega
    have Hi := Lib.hid (show Lib.lastIndexByte t 47 = (q : Int) - 1 by rw [lastIdx_up, hq])
    have hm2 : t.size < 4611686018427387904 := by omega
    have Hr := Lib.hid (show Value.tuple #[.string (t.extract 0 q), .string (t.extract q t.size)] = baseV s.data.toList by
      unfold baseV baseS; rw [if_neg (by rw [← htl]; exact h0), ← htl, ← hq, tail_str, up_str])
    clear htl h0 hq
    go_enter Tryd.func14, Tryd.ntmps14
    go_wp2_with (first | (go_at_call 24; refine (Tryd.strings_TrimRight_one s 47 (by decide) _ hm).mono ?_; rintro e w' ⟨rfl, rfl⟩; rw [Ht.out]) | (go_at_call 25; refine (Tryd.strings_LastIndexByte t 47 hm2 _).mono ?_; rintro e w' ⟨rfl, rfl⟩; rw [Hi.out]))
    go_quiet (fail)
    go_wp2
    go_ret2
    exact ⟨ret_val Hr.out, nq, rfl⟩
end Go.Proofs.YtiiomflffnmhnaaDoor
