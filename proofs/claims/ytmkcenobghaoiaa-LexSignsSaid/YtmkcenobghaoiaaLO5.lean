/- The document's answer: part. -/
import Derived.Test.YtmkcenobghaoiaaLO1
import Derived.Test.YtmkcenobghaoiaaLO2
import Derived.Test.YtmkcenobghaoiaaLO3
import Derived.Test.YtmkcenobghaoiaaLO4
namespace Go.Proofs.Ytmkcenobghaoiaa
open Go.RowKit
set_option linter.unusedVariables false
set_option linter.unusedSimpArgs false
set_option maxRecDepth 100000 in
set_option maxHeartbeats 16000000 in
theorem part_none (W : World) (l : Bs) (x : ByteArray) (b : Nat) (q : Bool) (deep : Nat) (hx : x.data.toList = l.drop b) (hb : b + x.size ≤ 4611686018427387904) (hk : kd q (l.drop b) = none) :
    Calls Try.prog 22 #[.string x, .bool q, .int .i64 deep, .int .i64 b] W (endPost W b (.ok b)) := by
  have hxm : x.size ≤ maxLen := by unfold maxLen; omega
  have HE := Lib.hid (show EKP (W.alloc (.cells #[.int .i64 0, .bool false, .bool false, .int .i64 0] 40)) W.heap.size 0 false false 0 from heap_alloc_new W _)
  have HF := Lib.hid ((Fr.refl (fun _ => False) W).alloc (.cells #[.int .i64 0, .bool false, .bool false, .int .i64 0] 40))
  by_cases h0 : x.size = 0
  · have hne := yes_list h0
    clear hx hk
    go_enter Try.func22, Try.ntmps22
    go_wp2
    refine bodyPost_ret (resEnds Try.f22 8 rfl (show EKP (W.alloc (.cells #[.int .i64 0, .bool false, .bool false, .int .i64 0] 40)) W.heap.size 0 false false 0 from heap_alloc_new W _) _ rfl) rfl ⟨?_, (Fr.refl _ W).alloc _⟩
    rw [show enN b (.ok b) = 0 from Nat.sub_self _]; rfl
  · have h0 : 0 < x.size := by omega
    have hne := ne_list h0
    rw [← hx, kd_pre] at hk
    obtain ⟨p1, p5, p6, p7, p23⟩ := pick_none hk
    have g92 : (((x[0].toNat : Int) == 92) : Bool) = false := u8_false x[0] 92 (pre_no h0 p1)
    have g96 : (((x[0].toNat : Int) == 96) : Bool) = false := u8_false x[0] 96 (pre_no h0 p7)
    have B1 := Lib.hid (fun w => (show Calls Try.prog 14 #[.string x, .string ⟨#[36, 40]⟩] w fun e w' => e = .returned (.bool false) ∧ w' = w from beg_call x [36, 40] false p5 hxm (by decide) w))
    have B2 := Lib.hid (fun w => (show Calls Try.prog 14 #[.string x, .string ⟨#[36, 123]⟩] w fun e w' => e = .returned (.bool false) ∧ w' = w from beg_call x [36, 123] false p6 hxm (by decide) w))
    unfold maxLen at hxm
    clear hk hx p1 p5 p6 p7
    cases q
    · have g39 : (((x[0].toNat : Int) == 39) : Bool) = false := u8_false x[0] 39 (pre_no h0 (p23.resolve_left (by decide)).1)
      have g34 : (((x[0].toNat : Int) == 34) : Bool) = false := u8_false x[0] 34 (pre_no h0 (p23.resolve_left (by decide)).2)
      clear p23
      go_enter Try.func22, Try.ntmps22
      go_wp2_with (first | (go_at_call 14; (with_reducible refine (B1.out _).mono ?_); rintro e w' ⟨rfl, rfl⟩) | (go_at_call 14; (with_reducible refine (B2.out _).mono ?_); rintro e w' ⟨rfl, rfl⟩))
      refine bodyPost_ret (resEnds Try.f22 8 rfl (show EKP (W.alloc (.cells #[.int .i64 0, .bool false, .bool false, .int .i64 0] 40)) W.heap.size 0 false false 0 from heap_alloc_new W _) _ rfl) rfl ⟨?_, (Fr.refl _ W).alloc _⟩
      rw [show enN b (.ok b) = 0 from Nat.sub_self _]; rfl
    · clear p23
      go_enter Try.func22, Try.ntmps22
      go_wp2_with (first | (go_at_call 14; (with_reducible refine (B1.out _).mono ?_); rintro e w' ⟨rfl, rfl⟩) | (go_at_call 14; (with_reducible refine (B2.out _).mono ?_); rintro e w' ⟨rfl, rfl⟩))
      refine bodyPost_ret (resEnds Try.f22 8 rfl (show EKP (W.alloc (.cells #[.int .i64 0, .bool false, .bool false, .int .i64 0] 40)) W.heap.size 0 false false 0 from heap_alloc_new W _) _ rfl) rfl ⟨?_, (Fr.refl _ W).alloc _⟩
      rw [show enN b (.ok b) = 0 from Nat.sub_self _]; rfl
theorem rpart_any (d : Nat) : PartR d := by
  induction d with
  | zero =>
    intro W l x b q deep hx hb hd
    unfold partE
    cases hk : kd q (l.drop b) with
    | none => exact part_none W l x b q deep hx hb hk
    | some k =>
      cases k
      case esc => exact zero_esc W l x b q deep hx hb hd hk
      case sq => exact zero_sq W l x b q deep hx hb hd hk
      case dq => exact zero_dq W l x b q deep hx hb hd hk
      case ar => exact zero_ar W l x b q deep hx hb hd hk
      case su => exact zero_su W l x b q deep hx hb hd hk
      case pa => exact zero_pa W l x b q deep hx hb hd hk
      case gr => exact zero_gr W l x b q deep hx hb hd hk
  | succ d ih =>
    intro W l x b q deep hx hb hd
    unfold partE
    cases hk : kd q (l.drop b) with
    | none => exact part_none W l x b q deep hx hb hk
    | some k =>
      cases k
      case esc => exact succ_esc d W l x b q deep hx hb hd hk
      case sq => exact succ_sq d W l x b q deep hx hb hd hk
      case dq => exact succ_dq d ih W l x b q deep hx hb hd hk
      case ar => exact succ_ar d W l x b q deep hx hb hd hk
      case su => exact succ_su d ih W l x b q deep hx hb hd hk
      case pa => exact succ_pa d ih W l x b q deep hx hb hd hk
      case gr => exact succ_gr d W l x b q deep hx hb hd hk
end Go.Proofs.Ytmkcenobghaoiaa
