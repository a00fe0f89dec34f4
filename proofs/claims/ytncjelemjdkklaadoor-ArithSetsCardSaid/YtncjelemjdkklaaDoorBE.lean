/- The walk of ArithBits. -/
import Derived.Test.YtncjelemjdkklaaDoorBD
namespace Go.Proofs.YtncjelemjdkklaaDoor
open Go.RowKit
set_option linter.unusedVariables false
set_option linter.unusedSimpArgs false
theorem val_two (t : Bs) (a b c d : Bs) (W : World) (ht : t.length ≤ maxLen) (hb : b.length ≤ maxLen) (hd : d.length ≤ maxLen) (henv : Env W) (v e : Int) (o : Own) (h : valP [(a, b), (c, d)] t = (v, e, o)) :
    Calls Tryd.prog 10 #[.string (st t), .slice (some ⟨W.heap.size, 0, none⟩) 2 2] (two W a b c d) fun r w' => ∃ lo cap, r = .returned (.tuple #[.int .i64 v, .slice lo o.length cap, .int .i64 e]) ∧ Below (two W a b c d).heap.size (two W a b c d) w' :=
  (val_giv t _ _ _ ht (giv_new2 W a b c d hb hd) (henv.bel (bel_new (Below.refl _ _) _)) v e o h).mono (by
    rintro r w' ⟨lo, cap, rfl, -, hb, -⟩
    exact ⟨lo, cap, rfl, hb⟩)
theorem val_more (t : Bs) (a b c d : Bs) (W w1 : World) (hw : Below (two W a b c d).heap.size (two W a b c d) w1) (ht : t.length ≤ maxLen) (hb : b.length ≤ maxLen) (hd : d.length ≤ maxLen) (henv : Env W) (v e : Int) (o : Own) (h : valP [(a, b), (c, d)] t = (v, e, o)) :
    Calls Tryd.prog 10 #[.string (st t), .slice (some ⟨W.heap.size, 0, none⟩) 2 2] w1 fun r w' => ∃ lo cap, r = .returned (.tuple #[.int .i64 v, .slice lo o.length cap, .int .i64 e]) ∧ Below (two W a b c d).heap.size (two W a b c d) w' :=
  (val_giv t _ _ _ ht (giv_keep (giv_new2 W a b c d hb hd) hw) ((henv.bel (bel_new (Below.refl _ _) _)).bel hw) v e o h).mono (by
    rintro r w' ⟨lo, cap, rfl, -, hb, -⟩
    exact ⟨lo, cap, rfl, bel_next hw hb⟩)
set_option maxRecDepth 100000 in
set_option maxHeartbeats 4000000 in
theorem walk_bits (a k : Int) (ha0 : I64 a) (hk0 : I64 k) (W : World) (henv : Env W) : Calls Tryd.prog 6 #[.int .i64 a, .int .i64 k] W fun e w' => e = .returned (.bool true) ∧ Below W.heap.size W w' := by
  have HA := Lib.hid ha0
  have HK := Lib.hid hk0
  have HS := Lib.hid (shown_any W henv)
  have HD1 := Lib.hid (fun w1 => digits_any a ha0 w1)
  have HD2 := Lib.hid (fun w1 => digits_any k hk0 w1)
  have hla := itoa_len ha0
  have hlk := itoa_len hk0
  have HV1 := Lib.hid (fun (w3 : World) (he : Env w3) => show Calls Tryd.prog 10 #[.string ⟨#[97, 32, 60, 60, 32, 107]⟩, .slice (some ⟨w3.heap.size, 0, none⟩) 2 2] (w3.alloc (.cells #[.string ⟨#[97]⟩, .string (st (Lib.itoa a)), .bool false, .bool false, .string ⟨#[107]⟩, .string (st (Lib.itoa k)), .bool false, .bool false] 25)) _ from
    val_two _ [97] (Lib.itoa a) [107] (Lib.itoa k) w3 (by decide) (by unfold maxLen; omega) (by unfold maxLen; omega) he _ _ _ (bits1 a k ha0 hk0))
  have HV2 := Lib.hid (fun (w3 w1 : World) (he : Env w3) (hw) => show Calls Tryd.prog 10 #[.string ⟨#[97, 32, 62, 62, 32, 107]⟩, .slice (some ⟨w3.heap.size, 0, none⟩) 2 2] w1 _ from
    val_more _ [97] (Lib.itoa a) [107] (Lib.itoa k) w3 w1 hw (by decide) (by unfold maxLen; omega) (by unfold maxLen; omega) he _ _ _ (bits2 a k ha0 hk0))
  have HV3 := Lib.hid (fun (w3 w1 : World) (he : Env w3) (hw) => show Calls Tryd.prog 10 #[.string ⟨#[40, 97, 32, 38, 32, 97, 41, 32, 45, 32, 40, 97, 32, 124, 32, 97, 41, 32, 43, 32, 40, 97, 32, 94, 32, 97, 41, 32, 43, 32, 40, 126, 97, 32, 43, 32, 97, 41]⟩, .slice (some ⟨w3.heap.size, 0, none⟩) 2 2] w1 _ from
    val_more _ [97] (Lib.itoa a) [107] (Lib.itoa k) w3 w1 hw (by decide) (by unfold maxLen; omega) (by unfold maxLen; omega) he _ _ _ (bits3 a k ha0))
  have hsa := st_size (Lib.itoa a)
  have hsk := st_size (Lib.itoa k)
  obtain ⟨l1, l2, l3⟩ := low6_i64 k hk0
  have hu : IntKind.u64.wrap (low6 k) = low6 k := by rw [u64_wrap]; omega
  have HE := Lib.hid henv
  generalize low6 k = m at l1 l2 l3 hu HV1 HV2
  clear ha0 hk0 henv hla hlk
  go_enter Tryd.func6, Tryd.ntmps6
  go_wp2_with (first
    | (go_at_call 8; (with_reducible refine HS.out.mono ?_); rintro e w1 ⟨rfl, hb1⟩; have HB1 := Lib.hid hb1; clear hb1)
    | (go_at_call 9; (with_reducible refine (HD1.out _).mono ?_); rintro e w2 ⟨rfl, hb2⟩; have HB2 := Lib.hid hb2; clear hb2)
    | (go_at_call 9; (with_reducible refine (HD2.out _).mono ?_); rintro e w3 ⟨rfl, hb3⟩; have HB3 := Lib.hid (bel_next (bel_next HB1.out HB2.out) hb3); clear hb3)
    | (go_at_call 10; (with_reducible refine (HV1.out _ (HE.out.bel HB3.out)).mono ?_); rintro e w4 ⟨lo4, cap4, rfl, hb4⟩; have HB4 := Lib.hid hb4; clear hb4)
    | (go_at_call 10; (with_reducible refine (HV2.out _ _ (HE.out.bel HB3.out) HB4.out).mono ?_); rintro e w5 ⟨lo5, cap5, rfl, hb5⟩; have HB5 := Lib.hid hb5; clear hb5)
    | (go_at_call 10; (with_reducible refine (HV3.out _ _ (HE.out.bel HB3.out) HB5.out).mono ?_); rintro e w6 ⟨lo6, cap6, rfl, hb6⟩; have HB6 := Lib.hid hb6; clear hb6))
  go_ret
  exact ⟨rfl, bel_next (bel_new HB3.out _) HB6.out⟩
end Go.Proofs.YtncjelemjdkklaaDoor
