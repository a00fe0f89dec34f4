/- The walk of ArithTwo. -/
import Derived.Test.YtncjelemjdkklaaDoorBF
namespace Go.Proofs.YtncjelemjdkklaaDoor
open Go.RowKit
set_option linter.unusedVariables false
set_option linter.unusedSimpArgs false
abbrev txt2 : ByteArray := ⟨#[40, 97, 32, 60, 32, 98, 41, 32, 43, 32, 40, 97, 32, 60, 61, 32, 98, 41, 32, 42, 32, 50, 32, 43, 32, 40, 97, 32, 61, 61, 32, 98, 41, 32, 42, 32, 52, 32, 43, 32, 40, 97, 32, 33, 61, 32, 98, 41, 32, 42, 32, 56, 32, 43, 32, 40, 97, 32, 62, 32, 98, 41, 32, 42, 32, 49, 54, 32, 43, 32, 40, 97, 32, 62, 61, 32, 98, 41, 32, 42, 32, 51, 50]⟩
set_option maxRecDepth 100000 in
set_option maxHeartbeats 8000000 in
theorem walk_two' (a b c r5 e5 : Int) (ha0 : I64 a) (hb0 : I64 b) (W : World) (henv : Env W) (hc : cmpV a b = c) (hcase : (a < b ∧ c = 11) ∨ ((a ≤ b ∧ b ≤ a) ∧ c = 38) ∨ (b < a ∧ c = 56)) (h5 : valP (mk a b [98]) [40, 97, 32, 47, 32, 98, 41, 32, 42, 32, 98, 32, 43, 32, 97, 32, 37, 32, 98] = (r5, e5, [])) (hr5 : ((b ≤ 0 ∧ 0 ≤ b) ∧ r5 = 0 ∧ e5 = 22) ∨ (b ≠ 0 ∧ r5 = a ∧ e5 = 0)) :
    Calls Tryd.prog 3 #[.int .i64 a, .int .i64 b] W fun e w' => e = .returned (.bool true) ∧ Below W.heap.size W w' := by
  have HS := Lib.hid (shown_any W henv)
  have HD1 := Lib.hid (fun w1 => digits_any a ha0 w1)
  have HD2 := Lib.hid (fun w1 => digits_any b hb0 w1)
  have hla := itoa_len ha0
  have hlb := itoa_len hb0
  have h2 := two2 a b ha0 hb0
  rw [hc] at h2
  have HV1 := Lib.hid (fun (w3 : World) (he : Env w3) => show Calls Tryd.prog 10 #[.string ⟨#[97, 32, 43, 32, 98, 32, 45, 32, 40, 97, 32, 45, 32, 98, 41, 32, 42, 32, 40, 97, 32, 42, 32, 98, 41]⟩, .slice (some ⟨w3.heap.size, 0, none⟩) 2 2] (w3.alloc (.cells #[.string ⟨#[97]⟩, .string (st (Lib.itoa a)), .bool false, .bool false, .string ⟨#[98]⟩, .string (st (Lib.itoa b)), .bool false, .bool false] 25)) _ from
    val_two _ [97] (Lib.itoa a) [98] (Lib.itoa b) w3 (by decide) (by unfold maxLen; omega) (by unfold maxLen; omega) he _ _ _ (two1 a b ha0 hb0))
  have HV2 := Lib.hid (fun (w3 w1 : World) (he : Env w3) (hw) => show Calls Tryd.prog 10 #[.string ⟨#[40, 97, 32, 60, 32, 98, 41, 32, 43, 32, 40, 97, 32, 60, 61, 32, 98, 41, 32, 42, 32, 50, 32, 43, 32, 40, 97, 32, 61, 61, 32, 98, 41, 32, 42, 32, 52, 32, 43, 32, 40, 97, 32, 33, 61, 32, 98, 41, 32, 42, 32, 56, 32, 43, 32, 40, 97, 32, 62, 32, 98, 41, 32, 42, 32, 49, 54, 32, 43, 32, 40, 97, 32, 62, 61, 32, 98, 41, 32, 42, 32, 51, 50]⟩, .slice (some ⟨w3.heap.size, 0, none⟩) 2 2] w1 _ from
    val_more _ [97] (Lib.itoa a) [98] (Lib.itoa b) w3 w1 hw (by decide) (by unfold maxLen; omega) (by unfold maxLen; omega) he _ _ _ h2)
  have HV3 := Lib.hid (fun (w3 w1 : World) (he : Env w3) (hw) => show Calls Tryd.prog 10 #[.string ⟨#[40, 97, 32, 38, 32, 98, 41, 32, 94, 32, 40, 97, 32, 124, 32, 98, 41, 32, 94, 32, 97, 32, 94, 32, 98, 32, 94, 32, 126, 97]⟩, .slice (some ⟨w3.heap.size, 0, none⟩) 2 2] w1 _ from
    val_more _ [97] (Lib.itoa a) [98] (Lib.itoa b) w3 w1 hw (by decide) (by unfold maxLen; omega) (by unfold maxLen; omega) he _ _ _ (two3 a b ha0 hb0))
  have HV4 := Lib.hid (fun (w3 w1 : World) (he : Env w3) (hw) => show Calls Tryd.prog 10 #[.string ⟨#[113, 32, 61, 32, 97, 32, 47, 32, 98, 44, 32, 48]⟩, .slice (some ⟨w3.heap.size, 0, none⟩) 2 2] w1 _ from
    val_more _ [97] (Lib.itoa a) [98] (Lib.itoa b) w3 w1 hw (by decide) (by unfold maxLen; omega) (by unfold maxLen; omega) he _ _ _ (two4 a b))
  have HV5 := Lib.hid (fun (w3 w1 : World) (he : Env w3) (hw) => show Calls Tryd.prog 10 #[.string ⟨#[40, 97, 32, 47, 32, 98, 41, 32, 42, 32, 98, 32, 43, 32, 97, 32, 37, 32, 98]⟩, .slice (some ⟨w3.heap.size, 0, none⟩) 2 2] w1 _ from
    val_more _ [97] (Lib.itoa a) [98] (Lib.itoa b) w3 w1 hw (by decide) (by unfold maxLen; omega) (by unfold maxLen; omega) he _ _ _ h5)
  have hsa := st_size (Lib.itoa a)
  have hsb := st_size (Lib.itoa b)
  have HE := Lib.hid henv
  have hsg : IntKind.i64.signed = true := rfl
  clear henv hla hlb h2 hc h5 ha0 hb0
  have HQ := Lib.hid hr5
  clear hr5
  go_enter Tryd.func3, Tryd.ntmps3
  rcases hcase with ⟨hlt, rfl⟩ | ⟨⟨hlt, hlt2⟩, rfl⟩ | ⟨hlt, rfl⟩ <;> rcases HQ.out with ⟨⟨hb, hb2⟩, rfl, rfl⟩ | ⟨hb, rfl, rfl⟩ <;>
  go_wp2_with (first
    | (go_at_call 8; (with_reducible refine HS.out.mono ?_); rintro e w1 ⟨rfl, hb1⟩; have HB1 := Lib.hid hb1; clear hb1)
    | (go_at_call 9; (with_reducible refine (HD1.out _).mono ?_); rintro e w2 ⟨rfl, hb2⟩; have HB2 := Lib.hid hb2; clear hb2)
    | (go_at_call 9; (with_reducible refine (HD2.out _).mono ?_); rintro e w3 ⟨rfl, hb3⟩; have HB3 := Lib.hid (bel_next (bel_next HB1.out HB2.out) hb3); clear hb3)
    | (go_at_call 10; (with_reducible refine (HV1.out _ (HE.out.bel HB3.out)).mono ?_); rintro e w4 ⟨lo4, cap4, rfl, hb4⟩; have HB4 := Lib.hid hb4; clear hb4)
    | (go_at_call 10; (with_reducible refine (HV2.out _ _ (HE.out.bel HB3.out) HB4.out).mono ?_); rintro e w5 ⟨lo5, cap5, rfl, hb5⟩; have HB5 := Lib.hid hb5; clear hb5)
    | (go_at_call 10; (with_reducible refine (HV3.out _ _ (HE.out.bel HB3.out) HB5.out).mono ?_); rintro e w6 ⟨lo6, cap6, rfl, hb6⟩; have HB6 := Lib.hid hb6; clear hb6)
    | (go_at_call 10; (with_reducible refine (HV4.out _ _ (HE.out.bel HB3.out) HB6.out).mono ?_); rintro e w7 ⟨lo7, cap7, rfl, hb7⟩; have HB7 := Lib.hid hb7; clear hb7)
    | (go_at_call 10; (with_reducible refine (HV5.out _ _ (HE.out.bel HB3.out) HB7.out).mono ?_); rintro e w8 ⟨lo8, cap8, rfl, hb8⟩; have HB8 := Lib.hid hb8; clear hb8))
  all_goals first
    | (go_ret; exact ⟨rfl, bel_next (bel_new HB3.out _) HB8.out⟩)
    | (rename_i hx; exfalso; refine (bne_iff_ne.1 hx) ?_; rw [wrap_id (n := a - b) ⟨by omega, by omega⟩, wrap_id (n := a + b) ⟨by omega, by omega⟩])
    | (rename_i hx; exfalso; refine (bne_iff_ne.1 hx) ?_; rw [wrap_id (n := r5 - b) ⟨by omega, by omega⟩])
theorem walk_two (a b : Int) (ha : I64 a) (hb : I64 b) (W : World) (henv : Env W) : Calls Tryd.prog 3 #[.int .i64 a, .int .i64 b] W fun e w' => e = .returned (.bool true) ∧ Below W.heap.size W w' := by
  have hcase : ∃ c, cmpV a b = c ∧ ((a < b ∧ c = 11) ∨ ((a ≤ b ∧ b ≤ a) ∧ c = 38) ∨ (b < a ∧ c = 56)) := by
    rcases Int.lt_trichotomy a b with h | h | h
    · exact ⟨11, cmp_lt a b h, .inl ⟨h, rfl⟩⟩
    · exact ⟨38, cmp_eq a b h, .inr (.inl ⟨⟨by omega, by omega⟩, rfl⟩)⟩
    · exact ⟨56, cmp_gt a b h, .inr (.inr ⟨h, rfl⟩)⟩
  obtain ⟨c, h1, h2⟩ := hcase
  by_cases h0 : b = 0
  · exact walk_two' a b c 0 22 ha hb W henv h1 h2 (two6 a b ha hb h0) (.inl ⟨⟨by omega, by omega⟩, rfl, rfl⟩)
  · exact walk_two' a b c a 0 ha hb W henv h1 h2 (two5 a b ha hb h0) (.inr ⟨h0, rfl, rfl⟩)
end Go.Proofs.YtncjelemjdkklaaDoor
