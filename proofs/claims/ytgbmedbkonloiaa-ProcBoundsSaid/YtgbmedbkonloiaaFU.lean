/- shown. -/
import Derived.Test.YtgbmedbkonloiaaFT
namespace Go.Proofs.Ytgbmedbkonloiaa
open Go.RowKit
set_option linter.unusedVariables false
set_option linter.unusedSimpArgs false
def shRel (w : World) (T : Nat) (nv : Value) (wr : World) : Prop := ∃ k : Nat, nv = .int .i64 k ∧ k ≤ 5 ∧ TL w wr T (2 + k) (stK k)
theorem i64_small (n : Int) (h0 : 0 ≤ n) (h : n ≤ 100000000) : I64 n := ⟨by omega, by omega⟩
set_option maxHeartbeats 4000000 in
set_option maxRecDepth 100000 in
theorem shown_any (w : World) : Calls Try.prog 7 #[] w fun r w' => r = .returned (.bool true) ∧ Below w.heap.size w w' := by
  go_enter Try.func7, Try.ntmps7
  go_wp2_with fail
  refine (tl_new (Below.refl _ _)).mono ?_
  rintro r w1 ⟨T, rfl, h1⟩
  have H1 := Lib.hid (tl_fork 1 true (i64_small _ (by decide) (by decide)) (by decide) h1)
  rw [st_a.1, st_a.2] at H1
  clear h1
  go_wp2_with fail
  refine H1.out.mono ?_
  rintro r w2 ⟨rfl, h2⟩
  have H2 := Lib.hid (tl_becomes 2 5 (i64_small _ (by decide) (by decide)) (by decide) h2)
  rw [st_b, show becT (forkT new0 1 true) 2 5 = stK 0 from rfl] at H2
  clear h2 H1
  go_wp2_with fail
  refine H2.out.mono ?_
  rintro r w3 ⟨rfl, h3⟩
  have H3 := Lib.hid h3
  clear h3 H2
  go_wp2
  go_loopw [5] (fun nv wr => shRel w T nv wr) (fun nv _ => 9 - (Lib.intOf nv).toNat)
  case atStart => exact ⟨0, rfl, by decide, H3.out⟩
  case round =>
    obtain ⟨k, rfl, hk, hT⟩ := hrel
    have hF := tl_fork 2 false (i64_small _ (by decide) (by decide)) (by omega) hT
    have i1 : (k : Int) < 9 := by omega
    clear H3
    by_cases h5 : k = 5
    · subst h5
      unfold forkN at hF
      rw [stK_end, show forkT (stK 5) 2 false = stK 5 by unfold forkT; cases liveP (stK 5).L 2 with | none => rfl | some p => exact if_neg (by rw [stK_end]; decide)] at hF
      have HF := Lib.hid hF
      clear hF hT
      go_wp2_with fail
      refine HF.out.mono ?_
      rintro r w4 ⟨rfl, h4⟩
      have H4 := Lib.hid (tl_exit 3 7 (i64_small _ (by decide) (by decide)) h4)
      clear h4 HF
      go_wp2_with fail
      refine H4.out.mono ?_
      rintro r w5 ⟨rfl, h5⟩
      have H5 := Lib.hid (tl_wait 2 0 (i64_small _ (by decide) (by decide)) (by decide) h5)
      rw [st_w] at H5
      clear h5 H4
      go_wp2_with fail
      refine H5.out.mono ?_
      unfold w3V
      rintro r w6 ⟨rfl, h6⟩
      have hF := tl_fork 2 false (i64_small _ (by decide) (by decide)) (by decide) h6
      rw [st_f] at hF
      have H6 := Lib.hid hF
      clear h6 H5 hF
      go_wp2_with fail
      refine H6.out.mono ?_
      rintro r w7 ⟨rfl, h7⟩
      have hC := tl_count 5 (by decide) h7
      rw [st_c] at hC
      have H7 := Lib.hid hC
      clear h7 H6 hC
      go_wp2_with (go_at_call 13; refine H7.out.mono ?_; rintro r w8 ⟨rfl, h8, -⟩)
      go_ret
      exact ⟨rfl, h8.bel⟩
    · rw [stK_ok ⟨k, by omega⟩] at hF
      have HF := Lib.hid hF
      clear hF hT
      go_wp2_with fail
      refine HF.out.mono ?_
      rintro r w4 ⟨rfl, h4⟩
      have H4 := Lib.hid h4
      clear h4 HF
      go_wp2
      go_roundw
      case rel => exact ⟨k + 1, by go_num, by omega, by rw [show (2 + ((k + 1 : Nat) : Int)) = 2 + (k : Int) + 1 by omega]; exact H4.out⟩
      case measure => simp [Lib.intOf]; omega
end Go.Proofs.Ytgbmedbkonloiaa
