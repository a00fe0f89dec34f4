/- The document's Same; the law LexAll: the walk. -/
import Derived.Test.YtmkcenobghaoiaaLU
import Derived.Test.YtmkcenobghaoiaaLP
namespace Go.Proofs.Ytmkcenobghaoiaa
open Go.RowKit
set_option linter.unusedVariables false
set_option linter.unusedSimpArgs false
theorem same_any (W : World) (B1 B2 : Nat) (v1 v2 : Value) (ts : List Tk) (pl : Bool) (hn : ts.length ≤ 1000) (h1 : Row W B1 v1 ts) (h2 : Row W B2 v2 ts) :
    Calls Try.prog 10 #[v1, v2, .bool pl] W fun e w' => e = .returned (.bool true) ∧ Fr (fun _ => False) W w' := by
  by_cases h0 : 0 < ts.length
  · obtain ⟨g1, cap1, rfl, _, _, hc1⟩ := row_open h1 h0
    obtain ⟨g2, cap2, rfl, _, _, hc2⟩ := row_open h2 h0
    have H1 := Lib.hid h1
    have H2 := Lib.hid h2
    clear h1 h2
    go_enter Try.func10, Try.ntmps10
    go_wp2
    go_loopw [7] (fun iv wr => ∃ i : Nat, iv = .int .i64 i ∧ i ≤ ts.length ∧ Fr (fun _ => False) W wr) (fun iv _ => ts.length - (intOf iv).toNat)
    case atStart => exact ⟨0, rfl, Nat.zero_le _, Fr.refl _ _⟩
    case round =>
      obtain ⟨i, rfl, hi, hF⟩ := hrel
      have HF := Lib.hid hF
      by_cases hlt : i < ts.length
      · obtain ⟨a0, a1, a2⟩ := row_cell (H1.out.fr hF (fun _ _ => id)) i hlt
        obtain ⟨b0, b1, b2⟩ := row_cell (H2.out.fr hF (fun _ _ => id)) i hlt
        generalize ts[i].kind = kd at *
        generalize st ts[i].text = x at *
        generalize ts[i].at_ = a at *
        have e1 : (((kd : Int) != kd) : Bool) = false := by simp
        have e2 : (((x : ByteArray).toList == x.toList) : Bool) = true := by simp
        have e3 : ((((a : Nat) : Int) != ((a : Nat) : Int)) : Bool) = false := by simp
        clear hF
        cases pl
        all_goals
          go_wp2
          go_quiet (fail)
          go_wp2
          go_roundw
          case rel => exact ⟨i + 1, by go_num, hlt, HF.out.drewN _⟩
          case measure => simp [intOf]; omega
      · obtain rfl : i = ts.length := by omega
        clear hF
        go_wp2
        go_ret
        exact ⟨rfl, HF.out⟩
  · obtain ⟨a1, cap1, rfl, _⟩ := h1.slice
    obtain ⟨a2, cap2, rfl, _⟩ := h2.slice
    have hz : ts.length = 0 := by omega
    rw [hz]
    go_enter Try.func10, Try.ntmps10
    go_wp2
    go_loopw [7] (fun iv wr => iv = .int .i64 0 ∧ Fr (fun _ => False) W wr) (fun iv _ => 0)
    case atStart => exact ⟨rfl, Fr.refl _ _⟩
    case round =>
      obtain ⟨rfl, hF⟩ := hrel
      go_wp2
      go_ret
      exact ⟨rfl, hF⟩
end Go.Proofs.Ytmkcenobghaoiaa
