/- Walk of the law PwfileMany. -/
import Derived.Test.YtjopmchbphjliaaDoorM1
import Derived.Test.YtjopmchbphjliaaDoorLW
namespace Go.Proofs.YtjopmchbphjliaaDoor
open Go.RowKit Go.Shelf

def maRel (w : World) (n : Nat) (s i : Value) (wr : World) : Prop :=
  ∃ k : Nat, k ≤ n ∧ i = .int .i64 k ∧ s = .string (manyS k) ∧ Below w.heap.size w wr
set_option maxRecDepth 100000 in
set_option maxHeartbeats 3200000 in
theorem many_walk (n : Int) (w : World) (henv : Env w) :
    Calls Tryd.prog 5 #[.int .i64 n] w fun e w' => e = .returned (.bool true) ∧ Below w.heap.size w w' := by
  obtain ⟨m, hm, hand⟩ := mask15 n
  have Hand := Lib.hid hand
  clear hand
  have cs := shown_any w henv
  go_enter Tryd.func5, Tryd.ntmps5
  go_wp2_with fail
  refine cs.mono ?_
  rintro x w1 ⟨rfl, hb1⟩
  have henv1 := henv.below hb1
  clear cs
  go_wp2
  rw [Hand.out]
  go_loopw [4, 5] (fun s i wr => maRel w m s i wr) (fun s i _ => m - (intOf i).toNat)
  case atStart => exact ⟨0, Nat.zero_le _, rfl, rfl, hb1⟩
  case round =>
    obtain ⟨k, hk, rfl, rfl, hB⟩ := hrel
    by_cases hlt : k < m
    · have hsz := many_size k
      have hc0 : (UInt8.ofNat (97 + k)).toNat = (97 + k) % 256 := rfl
      have hc : (97 + (k : Int)) = ((UInt8.ofNat (97 + k)).toNat : Int) := by omega
      have hst := manyS_next k
      generalize UInt8.ofNat (97 + k) = c at hc hst
      have h1 : (manyS k ++ ⟨#[117]⟩).size = 19 * k + 1 := by rw [append_size, hsz]; rfl
      have h2 : (manyS k ++ ⟨#[117]⟩ ++ ⟨#[c]⟩).size = 19 * k + 1 + 1 := by rw [append_size, h1]; rfl
      have Hst := Lib.hid hst
      have hs : (convert 38 9 (.slice (some ⟨wr.heap.size, 0, none⟩) 1 1)).run Tryd.prog (wr.alloc (Obj.cells #[.int .u8 (97 + (k : Int))] 5)) = .ok (.string ⟨#[c]⟩) (wr.alloc (Obj.cells #[.int .u8 (97 + (k : Int))] 5)) := by
        rw [hc]
        refine run_convert_bytes_back _ 38 9 5 ⟨wr.heap.size, 0, none⟩ 1 [c] Tryd.underlying38 Tryd.underlying5 Tryd.underlying9 fun j hj => ?_
        obtain rfl : j = 0 := by simp at hj; omega
        rw [Addr.add_lit, Nat.zero_add, (Blk.new wr 5 _).cell]; rfl
      have hbn : Below w.heap.size w (wr.alloc (Obj.cells #[.int .u8 (97 + (k : Int))] 5)) := hB.alloc hB.size _
      clear hc hc0 hst
      go_wp2
      go_roundw
      case rel => exact ⟨k + 1, by omega, by go_num, congrArg Value.string Hst.out.symm, hbn⟩
      case measure => simp [intOf]; omega
    · obtain rfl : k = m := by omega
      have hsz := many_size k
      have hmx : (manyS k).size ≤ maxLen := by unfold maxLen; omega
      have henvr := henv.below hB
      by_cases h8 : k ≤ 8
      · have cp := parse_at (manyS k) hmx _ _ _ (many_few h8) wr henvr
        rw [manyL_len] at cp
        have hr := many_rightL ⟨k, by omega⟩
        have hpr : printS (manyL k) = (manyS k).data.toList := by rw [print_right hr]; rfl
        have Hpr := Lib.hid hpr
        have Hall := Lib.hid (many_all (n := k) (by omega))
        have Hl := Lib.hid (manyL_len k)
        clear hpr hr
        go_wp2_with fail
        refine cp.mono ?_
        rintro x w2 ⟨p, cap, rfl, hrow, hb2⟩
        have henv2 := henvr.below hb2
        have hb12 := next hB hB.size hb2
        have hrow' : w2.ownsRow wr.heap.size 33 6 (.slice p k cap) (manyL k).length (usCells (manyL k)) := by rw [Hl.out]; exact hrow
        obtain ⟨hin, -, hcap, hcm⟩ := InUsers.of_row hrow' (fun u hu => right_ok (Hall.out u hu))
        rw [Hl.out] at hin hcap
        have c3 := print_at p k cap (manyL k) (manyS k) Hpr.out w2 henv2 hin hcap hcm
        have C3 := Lib.hid c3
        clear hrow hrow' hin hb2 cp henv2 henvr hmx hsz c3
        go_wp2_with fail
        refine C3.out.mono ?_
        rintro x w3 ⟨rfl, hb3⟩
        go_wp2
        go_ret
        exact ⟨ret_bool (by simp), next hb12 hb12.size hb3⟩
      · have cp := parse_at (manyS k) hmx _ _ _ (many_many (by omega) hm) wr henvr
        go_wp2_with fail
        refine cp.mono ?_
        rintro x w2 ⟨p, cap, rfl, hrow, hb2⟩
        have hb12 := next hB hB.size hb2
        clear hrow cp hmx hsz
        simp only [List.length_nil]
        go_wp2
        go_ret
        exact ⟨ret_bool (by simp), hb12⟩
end Go.Proofs.YtjopmchbphjliaaDoor
