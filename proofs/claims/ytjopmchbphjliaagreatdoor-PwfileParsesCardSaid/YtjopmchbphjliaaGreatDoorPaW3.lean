/- Contracts of endsAsDir, Base and the document's answer. -/
import Derived.Test.YtjopmchbphjliaaGreatDoorPaW1
import Derived.Test.YtjopmchbphjliaaGreatDoorPaS2
namespace Go.Proofs.YtjopmchbphjliaaGreatDoor
open Go.RowKit

theorem tail_str (s : ByteArray) : s.extract (upS s.data.toList).length s.size = ⟨(tailS s.data.toList).toArray⟩ := by
  rw [extract_drop, drop_up]
theorem up_str (s : ByteArray) : s.extract 0 (upS s.data.toList).length = ⟨(upS s.data.toList).toArray⟩ := by
  rw [extract_take, take_up]
set_option maxHeartbeats 800000 in
theorem ends_any (s : ByteArray) (hs : s.size < 4611686018427387904) (w : World) :
    Calls Tryz.prog 74 #[.string s] w fun e w' => e = .returned (.bool (dirP s.data.toList)) ∧ w = w' := by
  have hm := hs
  obtain ⟨q, hq⟩ : ∃ q : Nat, (upS s.data.toList).length = q := ⟨_, rfl⟩
  have hqs : q ≤ s.size := by have := up_len s.data.toList; rw [size_len] at this; omega
  have Hi := Lib.hid (show Lib.lastIndexByte s 47 = (q : Int) - 1 by rw [lastIdx_up, hq])
  have ht : (s.extract q s.size).toList = tailS s.data.toList := by rw [← hq, tail_str, toL]
  cases h0 : (s.extract q s.size).toList.isEmpty
  · cases h1 : ((s.extract q s.size).toList == [46])
    · cases h2 : ((s.extract q s.size).toList == [46, 46])
      · have Hr := Lib.hid (show dirP s.data.toList = false by
          unfold dirP; rw [lastP_tail, ← ht, h1, h2]
          rw [List.isEmpty_eq_false_iff] at h0
          simpa using h0)
        clear ht hq
        go_enter Tryz.func74, Tryz.ntmps74
        go_wp2_with (go_at_call 90; refine (Tryz.strings_LastIndexByte s 47 hm _).mono ?_; rintro e w' ⟨rfl, rfl⟩; rw [Hi.out])
        go_ret
        exact ⟨ret_bool Hr.out.symm, rfl⟩
      · have Hr := Lib.hid (show dirP s.data.toList = true by
          unfold dirP; rw [lastP_tail, ← ht, h2, Bool.or_true, Bool.or_true])
        clear ht hq
        go_enter Tryz.func74, Tryz.ntmps74
        go_wp2_with (go_at_call 90; refine (Tryz.strings_LastIndexByte s 47 hm _).mono ?_; rintro e w' ⟨rfl, rfl⟩; rw [Hi.out])
        go_ret
        exact ⟨ret_bool Hr.out.symm, rfl⟩
    · have Hr := Lib.hid (show dirP s.data.toList = true by
        unfold dirP; rw [lastP_tail, ← ht, h1, Bool.true_or, Bool.or_true])
      clear ht hq
      go_enter Tryz.func74, Tryz.ntmps74
      go_wp2_with (go_at_call 90; refine (Tryz.strings_LastIndexByte s 47 hm _).mono ?_; rintro e w' ⟨rfl, rfl⟩; rw [Hi.out])
      go_ret
      exact ⟨ret_bool Hr.out.symm, rfl⟩
  · have Hr := Lib.hid (show dirP s.data.toList = true by
      unfold dirP; rw [lastP_tail, ← ht, List.isEmpty_iff.1 h0]; rfl)
    clear ht hq
    go_enter Tryz.func74, Tryz.ntmps74
    go_wp2_with (go_at_call 90; refine (Tryz.strings_LastIndexByte s 47 hm _).mono ?_; rintro e w' ⟨rfl, rfl⟩; rw [Hi.out])
    go_ret
    exact ⟨ret_bool Hr.out.symm, rfl⟩

end Go.Proofs.YtjopmchbphjliaaGreatDoor
