/- Contracts of Text for all numbers, and of shown, the small case that each statement begins with. -/
import Derived.Test.YtmjjhoaplcjjcaaW5
import Derived.Test.YtmjjhoaplcjjcaaW7
namespace Go.Proofs.Ytmjjhoaplcjjcaa
open Go.RowKit

def kindB (k : Int) : UInt8 := if k = 0 then 45 else if k = 1 then 100 else 99
/-- Text, of any numbers. -/
def textA (k m : Int) : List UInt8 := if rightB m = true ∧ 0 ≤ k ∧ k ≤ 2 then textS (kindB k) m else []

theorem text_any (k m : Int) (w : World) :
    Calls Try.prog 18 #[.int .i64 k, .int .i64 m] w fun e w' => e = .returned (.string ⟨(textA k m).toArray⟩) ∧ Below w.heap.size w w' := by
  obtain ⟨fb, hfb⟩ : ∃ fb : Int, (if k = 0 then 45 else if k = 1 then 100 else if k = 2 then 99 else 0) = fb := ⟨_, rfl⟩
  have Hfb := Lib.hid hfb
  clear hfb
  cases hk : (decide (0 ≤ k) && decide (k ≤ 2))
  · have Ht := Lib.hid (show textA k m = [] by unfold textA; rw [if_neg]; intro h; simp at hk; omega)
    have Hk := Lib.hid hk
    clear hk
    go_enter Try.func18, Try.ntmps18
    go_wp2_with (go_at_call 23; refine (kind_any _ _).mono ?_; rintro e w' ⟨rfl, rfl⟩; rw [Hfb.out, Hk.out])
    go_ret
    exact ⟨by rw [Ht.out]; rfl, Below.refl _ _⟩
  · cases hr : rightB m
    · have Ht := Lib.hid (show textA k m = [] by unfold textA; rw [if_neg]; intro h; simp [hr] at h)
      have Hk := Lib.hid hk
      clear hk
      go_enter Try.func18, Try.ntmps18
      go_wp2_with (first | (go_at_call 23; refine (kind_any _ _).mono ?_; rintro e w' ⟨rfl, rfl⟩; rw [Hfb.out, Hk.out]) | (go_at_call 12; refine (right_any _ _).mono ?_; rintro e w' ⟨rfl, rfl⟩))
      go_ret
      exact ⟨by rw [Ht.out]; rfl, Below.refl _ _⟩
    · have h2 : 0 ≤ k ∧ k ≤ 2 := by simpa using hk
      have e : textA k m = textS (kindB k) m := by unfold textA; rw [if_pos ⟨hr, h2⟩]
      rw [e]
      refine text_loop k m (kindB k) w hr ?_ hk
      unfold kindB
      by_cases h0 : k = 0
      · rw [if_pos h0, if_pos h0]; rfl
      · by_cases h1 : k = 1
        · rw [if_neg h0, if_neg h0, if_pos h1, if_pos h1]; rfl
        · rw [if_neg h0, if_neg h0, if_neg h1, if_neg h1, if_pos (by omega)]; rfl

theorem shown_change : changeS [117, 43, 115, 44, 103, 111, 45, 119] 511 false = some 2541 := by decide +kernel
theorem shown_may1 : mayB 416 5 7 false 5 7 6 = true := by decide +kernel
theorem shown_may2 : mayB 416 5 7 false 6 7 6 = false := by decide +kernel
theorem shown_text : textA 0 2541 = [45, 114, 119, 115, 114, 45, 120, 114, 45, 120] := by decide +kernel

theorem dr_below {w w' : World} (h : Dr w w') : Below w.heap.size w w' := by
  obtain ⟨n, rfl⟩ := h; exact below_drewN (Below.refl _ _) n

theorem shown_any (w : World) :
    Calls Try.prog 11 #[] w fun e w' => e = .returned (.bool true) ∧ Below w.heap.size w w' := by
  have h1 := fun w : World => (change_any ⟨#[117, 43, 115, 44, 103, 111, 45, 119]⟩ 511 false (by decide) w)
  have h2 := fun w : World => may_any 416 5 7 false 5 7 6 w
  have h3 := fun w : World => may_any 416 5 7 false 6 7 6 w
  have h4 := fun w : World => text_any 0 2541 w
  have e1 : changeS (⟨#[117, 43, 115, 44, 103, 111, 45, 119]⟩ : ByteArray).data.toList 511 false = some 2541 := shown_change
  simp only [e1, shown_may1, shown_may2, shown_text, optV] at h1 h2 h3 h4
  have H1 := Lib.hid h1
  have H2 := Lib.hid h2
  have H3 := Lib.hid h3
  have H4 := Lib.hid h4
  clear h1 h2 h3 h4 e1
  go_enter Try.func11, Try.ntmps11
  go_wp2_with (first | (go_at_call 20; (with_reducible refine (H1.out _).mono ?_); rintro e w' ⟨rfl, n, rfl⟩) | (go_at_call 14; (with_reducible refine (H2.out _).mono ?_); rintro e w' ⟨rfl, rfl⟩) | (go_at_call 14; (with_reducible refine (H3.out _).mono ?_); rintro e w' ⟨rfl, rfl⟩) | (go_at_call 18; (with_reducible refine (H4.out _).mono ?_); rintro e w' ⟨rfl, hb⟩))
  go_ret
  exact ⟨rfl, (dr_below ⟨n, rfl⟩).trans hb⟩
end Go.Proofs.Ytmjjhoaplcjjcaa
