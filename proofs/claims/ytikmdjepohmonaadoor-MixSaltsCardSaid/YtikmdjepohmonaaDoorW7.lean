/- Contract of the law's shown. -/
import Derived.Test.YtikmdjepohmonaaDoorW6
namespace Go.Proofs.YtikmdjepohmonaaDoor
open Go.RowKit

theorem next {a b c : World} (h : Below a.heap.size a b) (k : Below b.heap.size b c) : Below a.heap.size a c := h.trans (k.mono h.size)
theorem matches_at (f p : ByteArray) (b : Bool) (hp : p.size ≤ maxLen) (hb : matchS f.data.toList p.data.toList = b) (w : World) :
    Calls Tryd.prog 16 #[.string f, .string p] w fun e w' => e = .returned (.bool b) ∧ Below w.heap.size w w' := by
  subst hb; exact matches_any f p hp w
theorem right_at (f : ByteArray) (b : Bool) (hb : rightS f.data.toList = b) (w : World) :
    Calls Tryd.prog 14 #[.string f] w fun e w' => e = .returned (.bool b) ∧ w = w' := by
  subst hb; exact right_any f w
theorem field_seven (w : World) :
    Calls Tryd.prog 12 #[.int .i64 7, .string ⟨#[]⟩] w fun e w' => e = .returned (.string ⟨(fieldS 7 []).toArray⟩) ∧ Below w.heap.size w w' :=
  field_any 7 ⟨#[]⟩ (by decide) w
theorem field_five (salt : Int) (l : List UInt8) : (fieldS salt l).take 5 = hexS (saltS salt).toNat 4 ++ [36] := by
  unfold fieldS
  rw [List.take_append, hex_len, List.take_of_length_le (by rw [hex_len]; decide)]; rfl
theorem matches_ee (w : World) : Calls Tryd.prog 16 #[.string ⟨#[]⟩, .string ⟨#[]⟩] w fun e w' => e = .returned (.bool true) ∧ Below w.heap.size w w' :=
  matches_at ⟨#[]⟩ ⟨#[]⟩ true (by decide) rfl w
theorem matches_ex (w : World) : Calls Tryd.prog 16 #[.string ⟨#[]⟩, .string ⟨#[120]⟩] w fun e w' => e = .returned (.bool false) ∧ Below w.heap.size w w' :=
  matches_at ⟨#[]⟩ ⟨#[120]⟩ false (by decide) rfl w
theorem matches_ss (w : World) : Calls Tryd.prog 16 #[.string ⟨#[42]⟩, .string ⟨#[42]⟩] w fun e w' => e = .returned (.bool false) ∧ Below w.heap.size w w' :=
  matches_at ⟨#[42]⟩ ⟨#[42]⟩ false (by decide) rfl w
theorem right_star (w : World) : Calls Tryd.prog 14 #[.string ⟨#[42]⟩] w fun e w' => e = .returned (.bool true) ∧ w = w' :=
  right_at ⟨#[42]⟩ true rfl w
theorem extract_five (s : ByteArray) : (s.extract 0 5).toList = s.data.toList.take 5 := by rw [tl, extract_take]
set_option maxHeartbeats 1600000 in
theorem shown_any (w : World) : Calls Tryd.prog 9 #[] w fun e w' => e = .returned (.bool true) ∧ Below w.heap.size w w' := by
  obtain ⟨f, hf⟩ : ∃ f : ByteArray, f = ⟨(fieldS 7 []).toArray⟩ := ⟨_, rfl⟩
  have hl : f.data.toList = fieldS 7 [] := by rw [hf]
  have hsz : f.size = 21 := by
    have := field_len 7 []
    rw [← hl] at this; simpa using this
  have h5 : ((f.extract 0 5).toList == [48, 48, 48, 55, 36]) = true := by
    rw [extract_five, hl, field_five]; rfl
  have Hm := Lib.hid (show matchS f.data.toList (⟨#[]⟩ : ByteArray).data.toList = true by
    show matchS f.data.toList [] = true
    rw [hl, match_field]; exact beq_self_eq_true _)
  have Hf := Lib.hid hf
  clear hf hl
  go_enter Tryd.func9, Tryd.ntmps9
  go_wp2_with (first | (go_at_call 12; refine (field_seven _).mono ?_; rintro e w1 ⟨rfl, hb1⟩; rw [← Hf.out]) | (go_at_call 16; (with_reducible refine (matches_at f ⟨#[]⟩ true (by decide) Hm.out _).mono ?_); rintro e w2 ⟨rfl, hb2⟩) | (go_at_call 16; (with_reducible refine (matches_ee _).mono ?_); rintro e w3 ⟨rfl, hb3⟩) | (go_at_call 16; (with_reducible refine (matches_ex _).mono ?_); rintro e w4 ⟨rfl, hb4⟩) | (go_at_call 16; (with_reducible refine (matches_ss _).mono ?_); rintro e w5 ⟨rfl, hb5⟩) | (go_at_call 14; refine (right_star _).mono ?_; rintro e w' ⟨rfl, rfl⟩))
  go_ret
  exact ⟨rfl, next (next (next (next hb1 hb2) hb3) hb4) hb5⟩
end Go.Proofs.YtikmdjepohmonaaDoor
