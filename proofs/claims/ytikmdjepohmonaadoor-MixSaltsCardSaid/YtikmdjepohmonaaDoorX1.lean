/- Walks of the laws MixTells, MixMatches, MixEmpty. -/
import Derived.Test.YtikmdjepohmonaaDoorW7
namespace Go.Proofs.YtikmdjepohmonaaDoor
open Go.RowKit

theorem small_max (p : ByteArray) (h : p.size ≤ 140737488351232) : p.size ≤ maxLen := by unfold maxLen; omega
set_option maxHeartbeats 1600000 in
theorem tells_walk (salt : Int) (p : ByteArray) (hreach : p.size ≤ 140737488351232) (w : World) :
    Calls Tryd.prog 3 #[.int .i64 salt, .string p] w fun e w' => e = .returned (.bool true) ∧ Below w.heap.size w w' := by
  have hp := small_max p hreach
  by_cases h2 : 2000 < p.size
  · go_enter Tryd.func3, Tryd.ntmps3
    go_wp2_with (go_at_call 9; refine (shown_any _).mono ?_; rintro e w1 ⟨rfl, hb1⟩)
    go_ret
    exact ⟨rfl, hb1⟩
  · go_enter Tryd.func3, Tryd.ntmps3
    go_wp2_with (first | (go_at_call 9; refine (shown_any _).mono ?_; rintro e w1 ⟨rfl, hb1⟩) | (go_at_call 10; refine (mix_any salt p hp _).mono ?_; rintro e w' ⟨rfl, rfl⟩) | (go_at_call 11; refine (refMix_any salt p hp _).mono ?_; rintro e w' ⟨rfl, rfl⟩) | (go_at_call 12; refine (field_any salt p hp _).mono ?_; rintro e w2 ⟨rfl, hb2⟩) | (go_at_call 13; refine (refField_any salt p hp _).mono ?_; rintro e w3 ⟨rfl, hb3⟩))
    go_ret
    exact ⟨ret_bool (by simp), next (next hb1 hb2) hb3⟩
set_option maxHeartbeats 1600000 in
theorem matches_walk (f p : ByteArray) (_hf : f.size ≤ 140737488351232) (hreach : p.size ≤ 140737488351232) (w : World) :
    Calls Tryd.prog 4 #[.string f, .string p] w fun e w' => e = .returned (.bool true) ∧ Below w.heap.size w w' := by
  have hp := small_max p hreach
  by_cases h2 : 2000 < p.size
  · go_enter Tryd.func4, Tryd.ntmps4
    go_wp2_with (go_at_call 9; refine (shown_any _).mono ?_; rintro e w1 ⟨rfl, hb1⟩)
    go_ret
    exact ⟨rfl, hb1⟩
  · obtain ⟨r, hr⟩ : ∃ r, rightS f.data.toList = r := ⟨_, rfl⟩
    obtain ⟨m, hm⟩ : ∃ m, matchS f.data.toList p.data.toList = m := ⟨_, rfl⟩
    have Hr := Lib.hid hr
    have Hm := Lib.hid hm
    clear hr hm
    go_enter Tryd.func4, Tryd.ntmps4
    go_wp2_with (first | (go_at_call 9; refine (shown_any _).mono ?_; rintro e w1 ⟨rfl, hb1⟩) | (go_at_call 14; refine (right_any f _).mono ?_; rintro e w' ⟨rfl, rfl⟩; rw [Hr.out]) | (go_at_call 15; refine (refRight_any f _).mono ?_; rintro e w' ⟨rfl, rfl⟩; rw [Hr.out]) | (go_at_call 16; refine (matches_any f p hp _).mono ?_; rintro e w2 ⟨rfl, hb2⟩; rw [Hm.out]) | (go_at_call 17; refine (refMatches_any f p hp _).mono ?_; rintro e w3 ⟨rfl, hb3⟩; rw [Hm.out]))
    go_ret
    exact ⟨ret_bool (by simp), next (next hb1 hb2) hb3⟩
theorem matches_e (p : ByteArray) (hp : p.size ≤ maxLen) (w : World) :
    Calls Tryd.prog 16 #[.string ⟨#[]⟩, .string p] w fun e w' => e = .returned (.bool p.toList.isEmpty) ∧ Below w.heap.size w w' :=
  matches_at ⟨#[]⟩ p _ hp (match_e (by rw [tl]) p) w
theorem matches_s (p : ByteArray) (hp : p.size ≤ maxLen) (w : World) :
    Calls Tryd.prog 16 #[.string ⟨#[42]⟩, .string p] w fun e w' => e = .returned (.bool false) ∧ Below w.heap.size w w' :=
  matches_at ⟨#[42]⟩ p false hp rfl w
set_option maxHeartbeats 1600000 in
theorem empty_walk (p f : ByteArray) (hreach : p.size ≤ 140737488351232) (_hf : f.size ≤ 140737488351232) (w : World) :
    Calls Tryd.prog 7 #[.string p, .string f] w fun e w' => e = .returned (.bool true) ∧ Below w.heap.size w w' := by
  have hp := small_max p hreach
  by_cases h2 : 2000 < p.size
  · go_enter Tryd.func7, Tryd.ntmps7
    go_wp2_with (go_at_call 9; refine (shown_any _).mono ?_; rintro e w1 ⟨rfl, hb1⟩)
    go_ret
    exact ⟨rfl, hb1⟩
  · cases hr : rightS f.data.toList
    · have Hr := Lib.hid hr
      have Hm := Lib.hid (show matchS f.data.toList p.data.toList = false by
        rw [Bool.eq_false_iff]; intro h; rw [match_right _ _ h] at hr; cases hr)
      clear hr
      go_enter Tryd.func7, Tryd.ntmps7
      go_wp2_with (first | (go_at_call 9; refine (shown_any _).mono ?_; rintro e w1 ⟨rfl, hb1⟩) | (go_at_call 15; refine (refRight_any f _).mono ?_; rintro e w' ⟨rfl, rfl⟩; rw [Hr.out]) | (go_at_call 16; (with_reducible refine (matches_e p hp _).mono ?_); rintro e w2 ⟨rfl, hb2⟩) | (go_at_call 16; (with_reducible refine (matches_s p hp _).mono ?_); rintro e w3 ⟨rfl, hb3⟩) | (go_at_call 16; (with_reducible refine (matches_at f p false hp Hm.out _).mono ?_); rintro e w4 ⟨rfl, hb4⟩))
      go_ret
      exact ⟨ret_bool (by simp), next (next (next hb1 hb2) hb3) hb4⟩
    · have Hr := Lib.hid hr
      clear hr
      go_enter Tryd.func7, Tryd.ntmps7
      go_wp2_with (first | (go_at_call 9; refine (shown_any _).mono ?_; rintro e w1 ⟨rfl, hb1⟩) | (go_at_call 15; refine (refRight_any f _).mono ?_; rintro e w' ⟨rfl, rfl⟩; rw [Hr.out]) | (go_at_call 16; (with_reducible refine (matches_e p hp _).mono ?_); rintro e w2 ⟨rfl, hb2⟩) | (go_at_call 16; (with_reducible refine (matches_s p hp _).mono ?_); rintro e w3 ⟨rfl, hb3⟩))
      go_ret
      exact ⟨ret_bool (by simp), next (next hb1 hb2) hb3⟩
end Go.Proofs.YtikmdjepohmonaaDoor
