/- The document's Part; the law LexParts: the walk. -/
import Derived.Test.YtmkcenobghaoiaaLO5
import Derived.Test.YtmkcenobghaoiaaLP
namespace Go.Proofs.Ytmkcenobghaoiaa
open Go.RowKit
set_option linter.unusedVariables false
set_option linter.unusedSimpArgs false
def resI : R → Int
  | .ok j => j
  | _ => -1
theorem rPart_any (s : ByteArray) (q : Bool) (hs : s.size ≤ 5000) (W : World) :
    Calls Try.prog 12 #[.string s, .bool q] W fun e w' => e = .returned (.int .i64 (partA s.data.toList q)) ∧ Fr (fun _ => False) W w' := by
  have C := Lib.hid (fun w => (show Calls Try.prog 22 #[.string s, .bool q, .int .i64 0, .int .i64 0] w (endPost w 0 (partE s.data.toList 25 q 0)) from
    rpart_any 25 w s.data.toList s 0 q 0 (by simp) (by omega) rfl))
  obtain ⟨r, hr⟩ : ∃ r, partE s.data.toList 25 q 0 = r := ⟨_, rfl⟩
  have hv : partA s.data.toList q = resI r := by
    rw [← hr]
    unfold partA partE
    rw [List.drop_zero]
    cases kd q s.data.toList with
    | none => rfl
    | some k => cases partL s.data.toList 25 q k 0 <;> rfl
  rw [hr] at C
  clear hr
  have HV := Lib.hid hv
  clear hv
  cases r with
  | ok j =>
    have C := Lib.hid (fun w => (show Calls Try.prog 22 #[.string s, .bool q, .int .i64 0, .int .i64 0] w (fun e w' => e = .returned (.agg #[.int .i64 (j : Nat), .bool false, .bool false, .int .i64 (0 : Nat)]) ∧ Fr (fun _ => False) w w') from C.out w))
    go_enter Try.func12, Try.ntmps12
    go_wp2_with (go_at_call 22; (with_reducible refine (C.out _).mono ?_); rintro e w2 ⟨rfl, hF⟩; have HF := Lib.hid hF; clear hF)
    go_ret
    exact ⟨ret_int HV.out.symm, HF.out.alloc _⟩
  | more =>
    have C := Lib.hid (fun w => (show Calls Try.prog 22 #[.string s, .bool q, .int .i64 0, .int .i64 0] w (fun e w' => e = .returned (.agg #[.int .i64 (0 : Nat), .bool true, .bool false, .int .i64 (0 : Nat)]) ∧ Fr (fun _ => False) w w') from C.out w))
    go_enter Try.func12, Try.ntmps12
    go_wp2_with (go_at_call 22; (with_reducible refine (C.out _).mono ?_); rintro e w2 ⟨rfl, hF⟩; have HF := Lib.hid hF; clear hF)
    go_ret
    exact ⟨ret_int HV.out.symm, HF.out.alloc _⟩
  | deep z =>
    have C := Lib.hid (fun w => (show Calls Try.prog 22 #[.string s, .bool q, .int .i64 0, .int .i64 0] w (fun e w' => e = .returned (.agg #[.int .i64 (0 : Nat), .bool false, .bool true, .int .i64 (z : Nat)]) ∧ Fr (fun _ => False) w w') from C.out w))
    go_enter Try.func12, Try.ntmps12
    go_wp2_with (go_at_call 22; (with_reducible refine (C.out _).mono ?_); rintro e w2 ⟨rfl, hF⟩; have HF := Lib.hid hF; clear hF)
    go_ret
    exact ⟨ret_int HV.out.symm, HF.out.alloc _⟩
theorem parts_any (s : ByteArray) (q : Bool) (W : World) (hs : s.size ≤ maxLen) :
    Calls Try.prog 4 #[.string s, .bool q] W fun e w' => e = .returned (.bool true) ∧ Below W.heap.size W w' := by
  have HS := Lib.hid shown_any
  have CP := Lib.hid (fun w => pPart_any s q hs w)
  unfold maxLen at hs
  by_cases h5 : 5000 < s.size
  · go_enter Try.func4, Try.ntmps4
    go_wp2_with (go_at_call 7; (with_reducible refine (HS.out _).mono ?_); rintro e w1 ⟨rfl, hF1⟩; have HF1 := Lib.hid hF1; clear hF1)
    go_ret
    exact ⟨rfl, HF1.out.bel (fun _ h => h.elim) (Nat.le_refl _)⟩
  · have CR := Lib.hid (fun w => rPart_any s q (by omega) w)
    generalize partA s.data.toList q = v at *
    go_enter Try.func4, Try.ntmps4
    go_wp2_with (first
      | (go_at_call 7; (with_reducible refine (HS.out _).mono ?_); rintro e w1 ⟨rfl, hF1⟩; have HF1 := Lib.hid hF1; clear hF1)
      | (go_at_call 11; (with_reducible refine (CP.out _).mono ?_); rintro e w2 ⟨rfl, hF2⟩; have HF2 := Lib.hid (HF1.out.trans hF2); clear hF2)
      | (go_at_call 12; (with_reducible refine (CR.out _).mono ?_); rintro e w3 ⟨rfl, hF3⟩; have HF3 := Lib.hid (HF2.out.trans hF3); clear hF3))
    go_ret
    exact ⟨ret_bool (by simp), HF3.out.bel (fun _ h => h.elim) (Nat.le_refl _)⟩
end Go.Proofs.Ytmkcenobghaoiaa
