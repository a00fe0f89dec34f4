/- Walks of the laws MixBack and MixSalts. -/
import Derived.Test.YtikmdjepohmonaaDoorX1
namespace Go.Proofs.YtikmdjepohmonaaDoor
open Go.RowKit

theorem field_at (salt : Int) (p f : ByteArray) (hp : p.size ≤ maxLen) (hf : f = ⟨(fieldS salt p.data.toList).toArray⟩) (w : World) :
    Calls Tryd.prog 12 #[.int .i64 salt, .string p] w fun e w' => e = .returned (.string f) ∧ Below w.heap.size w w' := by
  subst hf; exact field_any salt p hp w
theorem mix_at (salt : Int) (p : ByteArray) (x : Int) (hp : p.size ≤ maxLen) (hx : mixS salt p.data.toList = x) (w : World) :
    Calls Tryd.prog 10 #[.int .i64 salt, .string p] w fun e w' => e = .returned (.int .u64 x) ∧ w = w' := by
  subst hx; exact mix_any salt p hp w
set_option maxHeartbeats 1600000 in
theorem back_walk (salt : Int) (a b : ByteArray) (ha0 : a.size ≤ 140737488351232) (hb0 : b.size ≤ 140737488351232) (w : World) :
    Calls Tryd.prog 5 #[.int .i64 salt, .string a, .string b] w fun e w' => e = .returned (.bool true) ∧ Below w.heap.size w w' := by
  have ha := small_max a ha0
  have hb := small_max b hb0
  by_cases h2 : 2000 < a.size
  · go_enter Tryd.func5, Tryd.ntmps5
    go_wp2_with (go_at_call 9; refine (shown_any _).mono ?_; rintro e w1 ⟨rfl, hb1⟩)
    go_ret
    exact ⟨rfl, hb1⟩
  · by_cases h3 : 2000 < b.size
    · go_enter Tryd.func5, Tryd.ntmps5
      go_wp2_with (go_at_call 9; refine (shown_any _).mono ?_; rintro e w1 ⟨rfl, hb1⟩)
      go_ret
      exact ⟨rfl, hb1⟩
    · obtain ⟨f, hf⟩ : ∃ f : ByteArray, f = ⟨(fieldS salt a.data.toList).toArray⟩ := ⟨_, rfl⟩
      have hl : f.data.toList = fieldS salt a.data.toList := by rw [hf]
      have Hr := Lib.hid (show rightS f.data.toList = true by rw [hl]; exact field_right _ _)
      have Ha := Lib.hid (show matchS f.data.toList a.data.toList = true by rw [hl, match_field]; exact beq_self_eq_true _)
      obtain ⟨x, hx⟩ : ∃ x, mixS salt a.data.toList = x := ⟨_, rfl⟩
      obtain ⟨y, hy⟩ : ∃ y, mixS salt b.data.toList = y := ⟨_, rfl⟩
      obtain ⟨m, hm⟩ : ∃ m, (x == y) = m := ⟨_, rfl⟩
      obtain ⟨s, hs⟩ : ∃ s, bits .and .i64 salt 65535 = s := ⟨_, rfl⟩
      have Hb := Lib.hid (show matchS f.data.toList b.data.toList = m by rw [hl, match_field, hx, hy, hm])
      have Hs := Lib.hid (show mixS s a.data.toList = x by rw [← hx, ← hs]; exact mix_salt _ _ _ (salt_salt salt))
      have Hx := Lib.hid hx
      have Hy := Lib.hid hy
      have Hf := Lib.hid hf
      clear hx hy hf hl
      go_enter Tryd.func5, Tryd.ntmps5
      go_wp2_with (first | (go_at_call 9; refine (shown_any _).mono ?_; rintro e w1 ⟨rfl, hb1⟩) | (go_at_call 12; refine (field_at salt a f ha Hf.out _).mono ?_; rintro e w2 ⟨rfl, hb2⟩) | (go_at_call 14; refine (right_at f true Hr.out _).mono ?_; rintro e w' ⟨rfl, rfl⟩) | (go_at_call 16; (with_reducible refine (matches_at f a true ha Ha.out _).mono ?_); rintro e w3 ⟨rfl, hb3⟩) | (go_at_call 16; (with_reducible refine (matches_at f b m hb Hb.out _).mono ?_); rintro e w4 ⟨rfl, hb4⟩) | (go_at_call 10; (with_reducible refine (mix_at salt a x ha Hx.out _).mono ?_); rintro e w' ⟨rfl, rfl⟩) | (go_at_call 10; (with_reducible refine (mix_at salt b y hb Hy.out _).mono ?_); rintro e w' ⟨rfl, rfl⟩) | (go_at_call 10; (with_reducible refine (mix_at s a x ha Hs.out _).mono ?_); rintro e w' ⟨rfl, rfl⟩))
      go_ret
      exact ⟨ret_bool (by simp), next (next (next hb1 hb2) hb3) hb4⟩
theorem five_eq (a b : Int) (l : List UInt8) : ((fieldS a l).take 5 == (fieldS b l).take 5) = (saltS a == saltS b) := by
  obtain ⟨n, hn, hn2⟩ := salt_range a
  obtain ⟨m, hm, hm2⟩ := salt_range b
  rw [Bool.eq_iff_iff, beq_iff_eq, beq_iff_eq, field_five, field_five, hn, hm, Int.toNat_natCast, Int.toNat_natCast]
  constructor
  · intro h
    have := (List.append_inj_left h (by rw [hex_len, hex_len]))
    rw [hex_inj 4 n m (by omega) (by omega) this]
  · intro h; rw [show n = m from by omega]
set_option maxHeartbeats 1600000 in
theorem salts_walk (a b : Int) (p : ByteArray) (hp0 : p.size ≤ 140737488351232) (w : World) :
    Calls Tryd.prog 8 #[.int .i64 a, .int .i64 b, .string p] w fun e w' => e = .returned (.bool true) ∧ Below w.heap.size w w' := by
  have hp := small_max p hp0
  by_cases h2 : 2000 < p.size
  · go_enter Tryd.func8, Tryd.ntmps8
    go_wp2_with (go_at_call 9; refine (shown_any _).mono ?_; rintro e w1 ⟨rfl, hb1⟩)
    go_ret
    exact ⟨rfl, hb1⟩
  · obtain ⟨f, hf⟩ : ∃ f : ByteArray, f = ⟨(fieldS a p.data.toList).toArray⟩ := ⟨_, rfl⟩
    obtain ⟨g, hg⟩ : ∃ g : ByteArray, g = ⟨(fieldS b p.data.toList).toArray⟩ := ⟨_, rfl⟩
    have hfl : f.data.toList = fieldS a p.data.toList := by rw [hf]
    have hgl : g.data.toList = fieldS b p.data.toList := by rw [hg]
    have hfs : f.size = 21 := by have := field_len a p.data.toList; rw [← hfl] at this; simpa using this
    have hgs : g.size = 21 := by have := field_len b p.data.toList; rw [← hgl] at this; simpa using this
    obtain ⟨n, hn⟩ : ∃ n, bits .and .i64 a 65535 = n := ⟨_, rfl⟩
    obtain ⟨m, hm⟩ : ∃ m, bits .and .i64 b 65535 = m := ⟨_, rfl⟩
    have h5 : ((f.extract 0 5).toList == (g.extract 0 5).toList) = (n == m) := by
      rw [extract_five, extract_five, hfl, hgl, five_eq, ← hn, ← hm]; rfl
    have Hf := Lib.hid hf
    have Hg := Lib.hid hg
    by_cases hnm : n = m
    · have hsame : f = g := by rw [hf, hg, field_salt a b _ (by unfold saltS; rw [hn, hm, hnm])]
      subst hsame hnm
      clear hf hg hfl hgl h5
      go_enter Tryd.func8, Tryd.ntmps8
      go_wp2_with (first | (go_at_call 9; refine (shown_any _).mono ?_; rintro e w1 ⟨rfl, hb1⟩) | (go_at_call 12; (with_reducible refine (field_at a p f hp Hf.out _).mono ?_); rintro e w2 ⟨rfl, hb2⟩) | (go_at_call 12; (with_reducible refine (field_at b p f hp Hg.out _).mono ?_); rintro e w3 ⟨rfl, hb3⟩))
      go_quiet (fail)
      go_wp2
      go_ret
      exact ⟨rfl, below_drewN (next (next hb1 hb2) hb3) nq⟩
    · have hne : (n == m) = false := beq_eq_false_iff_ne.2 hnm
      rw [hne] at h5
      clear hf hg hfl hgl
      go_enter Tryd.func8, Tryd.ntmps8
      go_wp2_with (first | (go_at_call 9; refine (shown_any _).mono ?_; rintro e w1 ⟨rfl, hb1⟩) | (go_at_call 12; (with_reducible refine (field_at a p f hp Hf.out _).mono ?_); rintro e w2 ⟨rfl, hb2⟩) | (go_at_call 12; (with_reducible refine (field_at b p g hp Hg.out _).mono ?_); rintro e w3 ⟨rfl, hb3⟩))
      go_quiet (fail)
      go_wp2
      go_ret
      exact ⟨rfl, below_drewN (next (next hb1 hb2) hb3) nq⟩
end Go.Proofs.YtikmdjepohmonaaDoor
