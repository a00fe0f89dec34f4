/- The walk of TtyBounds. -/
import Derived.Test.YtojbgokbobkbdaaEL
namespace Go.Proofs.Ytojbgokbobkbdaa
open Go.RowKit
set_option linter.unusedVariables false
set_option linter.unusedSimpArgs false
variable {w0 W W' : World} {B T : Nat} {S : Nat → Prop} {s : TS}
def boundRel (w : World) (T : Nat) (iv : Value) (wr : World) : Prop := ∃ (k : Nat) (s : TS), iv = .int .i64 k ∧ k ≤ 40 ∧ s.shown.length ≤ 3000000 * k ∧ TL w wr T s
def bound2 (w : World) (T : Nat) (m : Nat) (iv av : Value) (wr : World) : Prop := ∃ (k : Nat) (s : TS), iv = .int .i64 k ∧ k ≤ 1025 ∧ av = .int .i64 (cnt s.L : Nat) ∧ cnt s.L + k ≤ 1024 ∧ s.line.length = m ∧ TL w wr T s
set_option maxHeartbeats 4000000 in
set_option maxRecDepth 100000 in
theorem bounds_any (p0 : Option Addr) (n0 c0 : Nat) (z0 : List ByteArray) (w : World) (h0 : InStrs w p0 n0 z0) (l0 : n0 ≤ maxLen) :
    Calls Try.prog 6 #[.slice p0 n0 c0] w fun e w' => e = .returned (.bool true) ∧ Below w.heap.size w w' := by
  have H0 := Lib.hid h0
  unfold maxLen at l0
  clear h0
  go_enter Try.func6, Try.ntmps6
  go_wp2_with fail
  refine (shown_any w).mono ?_
  rintro e w1 ⟨rfl, b1⟩
  go_wp2_with fail
  refine (tl_new b1).mono ?_
  rintro e w2 ⟨T, rfl, p2⟩
  have H2 := Lib.hid p2
  clear p2 b1
  go_wp2
  go_loopw [5] (fun iv wr => boundRel w T iv wr) (fun iv _ => 40 - (Lib.intOf iv).toNat)
  case atStart => exact ⟨0, _, rfl, by decide, by decide, H2.out⟩
  case round =>
    obtain ⟨k, s, rfl, hk, hsh, hT⟩ := hrel
    clear H2
    by_cases hlt : k < n0 ∧ k < 40
    · obtain ⟨k0, k2⟩ := hlt
      have hz0 : z0[k]? = some (z0[k]'(by rw [H0.out.1]; exact k0)) := List.getElem?_eq_getElem _
      obtain ⟨g0, o0, rfl, hc, hs⟩ := H0.out.2 k _ hz0
      generalize z0[k]'(by rw [H0.out.1]; exact k0) = z at hz0 hc hs
      have e0 := hT.cell hc
      have i1 : (0 : Int) ≤ (k : Int) := by omega
      have i2 : (k : Int) < n0 := by omega
      have i4 : (k : Int) < 40 := by omega
      have H3 := Lib.hid hT
      clear hz0 hc hT
      go_wp2_with fail
      refine (short_any z 3000 (by decide) hs _).mono ?_
      rintro e w3 ⟨rfl, rfl⟩
      have hz := short_size z 3000
      have hst := shown_type H3.out.ok (shortP z 3000).data.toList
      rw [← size_list] at hst
      have HT := Lib.hid (tl_type (shortP z 3000) (by omega) H3.out (by omega))
      generalize typeP (shortP z 3000).data.toList s = s2 at *
      generalize shortP z 3000 = y at *
      clear H3 e0
      go_wp2_with fail
      refine HT.out.mono ?_
      rintro e w4 ⟨rfl, h4⟩
      have hok := h4.ok
      have HU := Lib.hid (tl_unread h4)
      clear h4 HT
      go_wp2_with fail
      refine HU.out.mono ?_
      rintro e w5 ⟨rfl, h5⟩
      have H5 := Lib.hid h5
      have j1 : ¬ (1024 : Int) < (cnt s2.L : Nat) + (s2.line.length : Nat) := by have := hok.all; omega
      have j2 : ¬ (256 : Int) < (s2.line.length : Nat) := by have := hok.line; omega
      have j3 : (cnt s2.L : Nat) ≤ 1024 := by have := hok.all; omega
      have j4 : (s2.line.length : Nat) ≤ 256 := hok.line
      clear HU h5 hok
      go_wp2
      go_roundw
      case rel => exact ⟨k + 1, s2, by go_num, by omega, by omega, H5.out⟩
      case measure => simp [Lib.intOf]; omega
    · have H4 := Lib.hid hT
      have HU := Lib.hid (tl_unread hT)
      clear hT
      have hend : (k : Int) < n0 ∧ ¬ (k : Int) < 40 ∨ ¬ (k : Int) < n0 := by omega
      clear hlt
      rcases hend with ⟨i1, i2⟩ | i1
      all_goals
        go_wp2_with fail
        refine HU.out.mono ?_
        rintro e w5 ⟨rfl, h5⟩
        have H5 := Lib.hid h5
        clear HU h5 H4
        go_wp2
        go_loopw [10, 8] (fun iv av wr => bound2 w T s.line.length iv av wr) (fun iv _ _ => 1025 - (Lib.intOf iv).toNat)
        case atStart => exact ⟨0, s, rfl, by decide, rfl, by have := H5.out.ok.all; omega, rfl, H5.out⟩
        case round =>
          obtain ⟨m, s3, rfl, hm, rfl, hc, hl, hT3⟩ := hrel
          have H6 := Lib.hid hT3
          have hone := read_one s3
          have HR := Lib.hid (tl_read 1 hT3)
          unfold readV at HR
          have m0 : (m : Int) ≤ 1024 := by omega
          have hl2 := hT3.ok.line
          clear hT3 H5
          rcases hone with ⟨q1, q2⟩ | ⟨q1, q2, q3, q4⟩
          · rw [q1] at HR
            have hcz : cnt s3.L = 0 := by rw [q2]; rfl
            rw [hcz]
            clear q1 q2
            go_wp2_with fail
            refine HR.out.mono ?_
            rintro e w6 ⟨rfl, h6⟩
            have HB := Lib.hid h6.bel
            clear HR h6
            go_wp2
            go_ret
            exact ⟨rfl, HB.out⟩
          · rw [q1] at HR
            have hsz : (⟨(readS 1 s3).toArray⟩ : ByteArray).size ≤ 1 := by rw [ba_size]; exact q2
            generalize (⟨(readS 1 s3).toArray⟩ : ByteArray) = X at *
            generalize readP 1 s3 = s4 at *
            have hz1 : ¬ (1 : Int) < X.size := by omega
            have q3' : ((cnt s3.L : Nat) : Int) = (cnt s4.L : Nat) + 1 := by omega
            rw [q3']
            have q4' : s3.line.length = s4.line.length := by rw [q4]
            rw [q4'] at hl hl2
            clear q1 q2 q4 q4'
            have q3 : cnt s4.L + 1 + m ≤ 1024 := by omega
            clear q3' hc
            go_wp2_with fail
            refine HR.out.mono ?_
            rintro e w6 ⟨rfl, h6⟩
            have HU := Lib.hid (tl_unread h6)
            clear HR h6 H6
            go_wp2_with fail
            refine HU.out.mono ?_
            rintro e w7 ⟨rfl, h7⟩
            have H7 := Lib.hid h7
            have hle : ((s4.line.length : Int) == (s.line.length : Int)) = true := by rw [hl]; simp
            clear HU h7
            go_wp2
            go_roundw
            case rel => exact ⟨m + 1, s4, by go_num, by omega, rfl, by omega, hl, H7.out⟩
            case measure => simp [Lib.intOf]; omega
end Go.Proofs.Ytojbgokbobkbdaa
