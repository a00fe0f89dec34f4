/- The document's Text, of any numbers; both answers are one. -/
import Derived.Test.YtmjjhoaplcjjcaaM
import Derived.Test.YtmjjhoaplcjjcaaW11
namespace Go.Proofs.Ytmjjhoaplcjjcaa
open Go.RowKit

theorem kindB_at : ∀ k : Fin 3, (⟨#[45, 100, 99]⟩ : ByteArray)[k.val]'k.isLt = kindB (k.val : Int) := by decide
theorem refText_any (k m : Int) (hm : wfI m) (w : World) :
    Calls Try.prog 19 #[.int .i64 k, .int .i64 m] w fun e w' => e = .returned (.string ⟨(textA k m).toArray⟩) ∧ Below w.heap.size w w' := by
  have hrr := refRight_eq m hm
  cases hr : rightB m
  · have Ht := Lib.hid (show textA k m = [] by unfold textA; rw [if_neg]; intro h; simp [hr] at h)
    have Hr := Lib.hid (hrr.trans hr)
    clear hrr hr
    go_enter Try.func19, Try.ntmps19
    go_wp2_with (go_at_call 13; refine (refRight_any _ _).mono ?_; rintro e w' ⟨rfl, rfl⟩; rw [Hr.out])
    go_ret
    exact ⟨by rw [Ht.out]; rfl, Below.refl _ _⟩
  have Hr := Lib.hid (hrr.trans hr)
  by_cases h0 : k < 0
  · have Ht := Lib.hid (show textA k m = [] by unfold textA; rw [if_neg]; intro h; omega)
    clear hrr hr
    go_enter Try.func19, Try.ntmps19
    go_wp2_with (go_at_call 13; refine (refRight_any _ _).mono ?_; rintro e w' ⟨rfl, rfl⟩; rw [Hr.out])
    go_ret
    exact ⟨by rw [Ht.out]; rfl, Below.refl _ _⟩
  by_cases h2 : 2 < k
  · have Ht := Lib.hid (show textA k m = [] by unfold textA; rw [if_neg]; intro h; omega)
    clear hrr hr
    go_enter Try.func19, Try.ntmps19
    go_wp2_with (go_at_call 13; refine (refRight_any _ _).mono ?_; rintro e w' ⟨rfl, rfl⟩; rw [Hr.out])
    go_ret
    exact ⟨by rw [Ht.out]; rfl, Below.refl _ _⟩
  obtain ⟨n, hn, rfl, _⟩ := (andNot_zero m hm).1 hr
  obtain ⟨kn, rfl⟩ := Int.eq_ofNat_of_zero_le (show 0 ≤ k by omega)
  have e : textA (kn : Int) (n : Int) = textS (kindB (kn : Int)) (n : Int) := by unfold textA; rw [if_pos ⟨hr, by omega, by omega⟩]
  rw [e, ← kindB_at ⟨kn, by omega⟩]
  exact refText_yes kn n (by omega) hn w (hrr.trans hr)
end Go.Proofs.Ytmjjhoaplcjjcaa
