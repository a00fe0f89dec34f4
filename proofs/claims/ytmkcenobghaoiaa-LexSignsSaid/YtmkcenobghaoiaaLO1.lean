/- The document's answer: part. -/
import Derived.Test.YtmkcenobghaoiaaLO0
namespace Go.Proofs.Ytmkcenobghaoiaa
open Go.RowKit
set_option linter.unusedVariables false
set_option linter.unusedSimpArgs false
set_option maxRecDepth 100000 in
set_option maxHeartbeats 16000000 in
theorem zero_esc (W : World) (l : Bs) (x : ByteArray) (b : Nat) (q : Bool) (deep : Nat) (hx : x.data.toList = l.drop b) (hb : b + x.size ≤ 4611686018427387904) (hdeep : deep + 0 = 25) (hk : kd q (l.drop b) = some .esc) :
    Calls Try.prog 22 #[.string x, .bool q, .int .i64 deep, .int .i64 b] W (endPost W b (.deep b)) := by
  have h0 := nonempty_of hx hk
  have hne := ne_list h0
  have hxm : x.size ≤ maxLen := by unfold maxLen; omega
  have HBL := Lib.hid (base_len hx)
  rw [← hx, kd_pre] at hk
  have hc : x[0] = 92 := pre_head' h0 (pick_esc _ _ _ _ _ _ _ _ hk)
  have g92 : (((x[0].toNat : Int) == 92) : Bool) = true := u8_true x[0] 92 hc
  have g96 : (((x[0].toNat : Int) == 96) : Bool) = false := u8_false x[0] 96 (by rw [hc]; decide)
  have g39 : (((x[0].toNat : Int) == 39) : Bool) = false := u8_false x[0] 39 (by rw [hc]; decide)
  have g34 : (((x[0].toNat : Int) == 34) : Bool) = false := u8_false x[0] 34 (by rw [hc]; decide)
  have HX := Lib.hid hx
  have HXM := Lib.hid hxm
  unfold maxLen at hxm
  have HE := Lib.hid (show EKP (W.alloc (.cells #[.int .i64 0, .bool false, .bool false, .int .i64 0] 40)) W.heap.size 0 false false 0 from heap_alloc_new W _)
  have HF := Lib.hid ((Fr.refl (fun _ => False) W).alloc (.cells #[.int .i64 0, .bool false, .bool false, .int .i64 0] 40))
  clear hk hx hc
  obtain rfl : deep = 25 := by omega
  cases q
  all_goals
    go_enter Try.func22, Try.ntmps22
    go_wp2
    exact bodyPost_ret (resEnds Try.f22 8 rfl (show EKP (W.alloc (.cells #[.int .i64 0, .bool false, .bool true, .int .i64 b] 40)) W.heap.size 0 false true b from heap_alloc_new W _) _ rfl) rfl ⟨rfl, (Fr.refl _ W).alloc _⟩
set_option maxRecDepth 100000 in
set_option maxHeartbeats 16000000 in
theorem zero_sq (W : World) (l : Bs) (x : ByteArray) (b : Nat) (q : Bool) (deep : Nat) (hx : x.data.toList = l.drop b) (hb : b + x.size ≤ 4611686018427387904) (hdeep : deep + 0 = 25) (hk : kd q (l.drop b) = some .sq) :
    Calls Try.prog 22 #[.string x, .bool q, .int .i64 deep, .int .i64 b] W (endPost W b (.deep b)) := by
  have h0 := nonempty_of hx hk
  have hne := ne_list h0
  have hxm : x.size ≤ maxLen := by unfold maxLen; omega
  have HBL := Lib.hid (base_len hx)
  rw [← hx, kd_pre] at hk
  have hc : x[0] = 39 := pre_head' h0 (pick_sq _ _ _ _ _ _ _ _ hk).1
  have g92 : (((x[0].toNat : Int) == 92) : Bool) = false := u8_false x[0] 92 (by rw [hc]; decide)
  have g96 : (((x[0].toNat : Int) == 96) : Bool) = false := u8_false x[0] 96 (by rw [hc]; decide)
  have g39 : (((x[0].toNat : Int) == 39) : Bool) = true := u8_true x[0] 39 hc
  have g34 : (((x[0].toNat : Int) == 34) : Bool) = false := u8_false x[0] 34 (by rw [hc]; decide)
  have hq : q = false := (pick_sq _ _ _ _ _ _ _ _ hk).2
  subst hq
  have HX := Lib.hid hx
  have HXM := Lib.hid hxm
  unfold maxLen at hxm
  have HE := Lib.hid (show EKP (W.alloc (.cells #[.int .i64 0, .bool false, .bool false, .int .i64 0] 40)) W.heap.size 0 false false 0 from heap_alloc_new W _)
  have HF := Lib.hid ((Fr.refl (fun _ => False) W).alloc (.cells #[.int .i64 0, .bool false, .bool false, .int .i64 0] 40))
  clear hk hx hc
  obtain rfl : deep = 25 := by omega
  all_goals
    go_enter Try.func22, Try.ntmps22
    go_wp2
    exact bodyPost_ret (resEnds Try.f22 8 rfl (show EKP (W.alloc (.cells #[.int .i64 0, .bool false, .bool true, .int .i64 b] 40)) W.heap.size 0 false true b from heap_alloc_new W _) _ rfl) rfl ⟨rfl, (Fr.refl _ W).alloc _⟩
set_option maxRecDepth 100000 in
set_option maxHeartbeats 16000000 in
theorem zero_dq (W : World) (l : Bs) (x : ByteArray) (b : Nat) (q : Bool) (deep : Nat) (hx : x.data.toList = l.drop b) (hb : b + x.size ≤ 4611686018427387904) (hdeep : deep + 0 = 25) (hk : kd q (l.drop b) = some .dq) :
    Calls Try.prog 22 #[.string x, .bool q, .int .i64 deep, .int .i64 b] W (endPost W b (.deep b)) := by
  have h0 := nonempty_of hx hk
  have hne := ne_list h0
  have hxm : x.size ≤ maxLen := by unfold maxLen; omega
  have HBL := Lib.hid (base_len hx)
  rw [← hx, kd_pre] at hk
  have hc : x[0] = 34 := pre_head' h0 (pick_dq _ _ _ _ _ _ _ _ hk).1
  have g92 : (((x[0].toNat : Int) == 92) : Bool) = false := u8_false x[0] 92 (by rw [hc]; decide)
  have g96 : (((x[0].toNat : Int) == 96) : Bool) = false := u8_false x[0] 96 (by rw [hc]; decide)
  have g39 : (((x[0].toNat : Int) == 39) : Bool) = false := u8_false x[0] 39 (by rw [hc]; decide)
  have g34 : (((x[0].toNat : Int) == 34) : Bool) = true := u8_true x[0] 34 hc
  have hq : q = false := (pick_dq _ _ _ _ _ _ _ _ hk).2
  subst hq
  have HX := Lib.hid hx
  have HXM := Lib.hid hxm
  unfold maxLen at hxm
  have HE := Lib.hid (show EKP (W.alloc (.cells #[.int .i64 0, .bool false, .bool false, .int .i64 0] 40)) W.heap.size 0 false false 0 from heap_alloc_new W _)
  have HF := Lib.hid ((Fr.refl (fun _ => False) W).alloc (.cells #[.int .i64 0, .bool false, .bool false, .int .i64 0] 40))
  clear hk hx hc
  obtain rfl : deep = 25 := by omega
  all_goals
    go_enter Try.func22, Try.ntmps22
    go_wp2
    exact bodyPost_ret (resEnds Try.f22 8 rfl (show EKP (W.alloc (.cells #[.int .i64 0, .bool false, .bool true, .int .i64 b] 40)) W.heap.size 0 false true b from heap_alloc_new W _) _ rfl) rfl ⟨rfl, (Fr.refl _ W).alloc _⟩
set_option maxRecDepth 100000 in
set_option maxHeartbeats 16000000 in
theorem zero_ar (W : World) (l : Bs) (x : ByteArray) (b : Nat) (q : Bool) (deep : Nat) (hx : x.data.toList = l.drop b) (hb : b + x.size ≤ 4611686018427387904) (hdeep : deep + 0 = 25) (hk : kd q (l.drop b) = some .ar) :
    Calls Try.prog 22 #[.string x, .bool q, .int .i64 deep, .int .i64 b] W (endPost W b (.deep b)) := by
  have h0 := nonempty_of hx hk
  have hne := ne_list h0
  have hxm : x.size ≤ maxLen := by unfold maxLen; omega
  have HBL := Lib.hid (base_len hx)
  rw [← hx, kd_pre] at hk
  have hc : x[0] = 36 := pre_head' h0 (pick_ar _ _ _ _ _ _ _ _ hk)
  have g92 : (((x[0].toNat : Int) == 92) : Bool) = false := u8_false x[0] 92 (by rw [hc]; decide)
  have g96 : (((x[0].toNat : Int) == 96) : Bool) = false := u8_false x[0] 96 (by rw [hc]; decide)
  have g39 : (((x[0].toNat : Int) == 39) : Bool) = false := u8_false x[0] 39 (by rw [hc]; decide)
  have g34 : (((x[0].toNat : Int) == 34) : Bool) = false := u8_false x[0] 34 (by rw [hc]; decide)
  have h40 := pick_ar _ _ _ _ _ _ _ _ hk
  have B1 := Lib.hid (fun w => (show Calls Try.prog 14 #[.string x, .string ⟨#[36, 40]⟩] w fun e w' => e = .returned (.bool true) ∧ w' = w from beg_call x [36, 40] true (pre_sub h40) hxm (by decide) w))
  have B3 := Lib.hid (fun w => (show Calls Try.prog 14 #[.string x, .string ⟨#[36, 40, 40]⟩] w fun e w' => e = .returned (.bool true) ∧ w' = w from beg_call x [36, 40, 40] true h40 hxm (by decide) w))
  have hl3 : 3 ≤ x.size := by have := pre_len h40; rw [size_len] at this; exact this
  clear h40
  have HX := Lib.hid hx
  have HXM := Lib.hid hxm
  unfold maxLen at hxm
  have HE := Lib.hid (show EKP (W.alloc (.cells #[.int .i64 0, .bool false, .bool false, .int .i64 0] 40)) W.heap.size 0 false false 0 from heap_alloc_new W _)
  have HF := Lib.hid ((Fr.refl (fun _ => False) W).alloc (.cells #[.int .i64 0, .bool false, .bool false, .int .i64 0] 40))
  clear hk hx hc
  obtain rfl : deep = 25 := by omega
  cases q
  all_goals
    go_enter Try.func22, Try.ntmps22
    go_wp2_with (first | (go_at_call 14; (with_reducible refine (B1.out _).mono ?_); rintro e w' ⟨rfl, rfl⟩) | (go_at_call 14; (with_reducible refine (B3.out _).mono ?_); rintro e w' ⟨rfl, rfl⟩))
    exact bodyPost_ret (resEnds Try.f22 8 rfl (show EKP (W.alloc (.cells #[.int .i64 0, .bool false, .bool true, .int .i64 b] 40)) W.heap.size 0 false true b from heap_alloc_new W _) _ rfl) rfl ⟨rfl, (Fr.refl _ W).alloc _⟩
set_option maxRecDepth 100000 in
set_option maxHeartbeats 16000000 in
theorem zero_su (W : World) (l : Bs) (x : ByteArray) (b : Nat) (q : Bool) (deep : Nat) (hx : x.data.toList = l.drop b) (hb : b + x.size ≤ 4611686018427387904) (hdeep : deep + 0 = 25) (hk : kd q (l.drop b) = some .su) :
    Calls Try.prog 22 #[.string x, .bool q, .int .i64 deep, .int .i64 b] W (endPost W b (.deep b)) := by
  have h0 := nonempty_of hx hk
  have hne := ne_list h0
  have hxm : x.size ≤ maxLen := by unfold maxLen; omega
  have HBL := Lib.hid (base_len hx)
  rw [← hx, kd_pre] at hk
  have hc : x[0] = 36 := pre_head' h0 (pick_su _ _ _ _ _ _ _ _ hk).2
  have g92 : (((x[0].toNat : Int) == 92) : Bool) = false := u8_false x[0] 92 (by rw [hc]; decide)
  have g96 : (((x[0].toNat : Int) == 96) : Bool) = false := u8_false x[0] 96 (by rw [hc]; decide)
  have g39 : (((x[0].toNat : Int) == 39) : Bool) = false := u8_false x[0] 39 (by rw [hc]; decide)
  have g34 : (((x[0].toNat : Int) == 34) : Bool) = false := u8_false x[0] 34 (by rw [hc]; decide)
  obtain ⟨h4, h5⟩ := pick_su _ _ _ _ _ _ _ _ hk
  have B1 := Lib.hid (fun w => (show Calls Try.prog 14 #[.string x, .string ⟨#[36, 40]⟩] w fun e w' => e = .returned (.bool true) ∧ w' = w from beg_call x [36, 40] true h5 hxm (by decide) w))
  have B3 := Lib.hid (fun w => (show Calls Try.prog 14 #[.string x, .string ⟨#[36, 40, 40]⟩] w fun e w' => e = .returned (.bool false) ∧ w' = w from beg_call x [36, 40, 40] false h4 hxm (by decide) w))
  have hl3 : 2 ≤ x.size := by have := pre_len h5; rw [size_len] at this; exact this
  clear h4 h5
  have HX := Lib.hid hx
  have HXM := Lib.hid hxm
  unfold maxLen at hxm
  have HE := Lib.hid (show EKP (W.alloc (.cells #[.int .i64 0, .bool false, .bool false, .int .i64 0] 40)) W.heap.size 0 false false 0 from heap_alloc_new W _)
  have HF := Lib.hid ((Fr.refl (fun _ => False) W).alloc (.cells #[.int .i64 0, .bool false, .bool false, .int .i64 0] 40))
  clear hk hx hc
  obtain rfl : deep = 25 := by omega
  cases q
  all_goals
    go_enter Try.func22, Try.ntmps22
    go_wp2_with (first | (go_at_call 14; (with_reducible refine (B1.out _).mono ?_); rintro e w' ⟨rfl, rfl⟩) | (go_at_call 14; (with_reducible refine (B3.out _).mono ?_); rintro e w' ⟨rfl, rfl⟩))
    exact bodyPost_ret (resEnds Try.f22 8 rfl (show EKP (W.alloc (.cells #[.int .i64 0, .bool false, .bool true, .int .i64 b] 40)) W.heap.size 0 false true b from heap_alloc_new W _) _ rfl) rfl ⟨rfl, (Fr.refl _ W).alloc _⟩
set_option maxRecDepth 100000 in
set_option maxHeartbeats 16000000 in
theorem zero_pa (W : World) (l : Bs) (x : ByteArray) (b : Nat) (q : Bool) (deep : Nat) (hx : x.data.toList = l.drop b) (hb : b + x.size ≤ 4611686018427387904) (hdeep : deep + 0 = 25) (hk : kd q (l.drop b) = some .pa) :
    Calls Try.prog 22 #[.string x, .bool q, .int .i64 deep, .int .i64 b] W (endPost W b (.deep b)) := by
  have h0 := nonempty_of hx hk
  have hne := ne_list h0
  have hxm : x.size ≤ maxLen := by unfold maxLen; omega
  have HBL := Lib.hid (base_len hx)
  rw [← hx, kd_pre] at hk
  have hc : x[0] = 36 := pre_head' h0 (pick_pa _ _ _ _ _ _ _ _ hk).2.2
  have g92 : (((x[0].toNat : Int) == 92) : Bool) = false := u8_false x[0] 92 (by rw [hc]; decide)
  have g96 : (((x[0].toNat : Int) == 96) : Bool) = false := u8_false x[0] 96 (by rw [hc]; decide)
  have g39 : (((x[0].toNat : Int) == 39) : Bool) = false := u8_false x[0] 39 (by rw [hc]; decide)
  have g34 : (((x[0].toNat : Int) == 34) : Bool) = false := u8_false x[0] 34 (by rw [hc]; decide)
  obtain ⟨h4, h5, h6⟩ := pick_pa _ _ _ _ _ _ _ _ hk
  have B1 := Lib.hid (fun w => (show Calls Try.prog 14 #[.string x, .string ⟨#[36, 40]⟩] w fun e w' => e = .returned (.bool false) ∧ w' = w from beg_call x [36, 40] false h5 hxm (by decide) w))
  have B2 := Lib.hid (fun w => (show Calls Try.prog 14 #[.string x, .string ⟨#[36, 123]⟩] w fun e w' => e = .returned (.bool true) ∧ w' = w from beg_call x [36, 123] true h6 hxm (by decide) w))
  have B3 := Lib.hid (fun w => (show Calls Try.prog 14 #[.string x, .string ⟨#[36, 40, 40]⟩] w fun e w' => e = .returned (.bool false) ∧ w' = w from beg_call x [36, 40, 40] false h4 hxm (by decide) w))
  have hl3 : 2 ≤ x.size := by have := pre_len h6; rw [size_len] at this; exact this
  clear h4 h5 h6
  have HX := Lib.hid hx
  have HXM := Lib.hid hxm
  unfold maxLen at hxm
  have HE := Lib.hid (show EKP (W.alloc (.cells #[.int .i64 0, .bool false, .bool false, .int .i64 0] 40)) W.heap.size 0 false false 0 from heap_alloc_new W _)
  have HF := Lib.hid ((Fr.refl (fun _ => False) W).alloc (.cells #[.int .i64 0, .bool false, .bool false, .int .i64 0] 40))
  clear hk hx hc
  obtain rfl : deep = 25 := by omega
  cases q
  all_goals
    go_enter Try.func22, Try.ntmps22
    go_wp2_with (first | (go_at_call 14; (with_reducible refine (B1.out _).mono ?_); rintro e w' ⟨rfl, rfl⟩) | (go_at_call 14; (with_reducible refine (B2.out _).mono ?_); rintro e w' ⟨rfl, rfl⟩) | (go_at_call 14; (with_reducible refine (B3.out _).mono ?_); rintro e w' ⟨rfl, rfl⟩))
    exact bodyPost_ret (resEnds Try.f22 8 rfl (show EKP (W.alloc (.cells #[.int .i64 0, .bool false, .bool true, .int .i64 b] 40)) W.heap.size 0 false true b from heap_alloc_new W _) _ rfl) rfl ⟨rfl, (Fr.refl _ W).alloc _⟩
set_option maxRecDepth 100000 in
set_option maxHeartbeats 16000000 in
theorem zero_gr (W : World) (l : Bs) (x : ByteArray) (b : Nat) (q : Bool) (deep : Nat) (hx : x.data.toList = l.drop b) (hb : b + x.size ≤ 4611686018427387904) (hdeep : deep + 0 = 25) (hk : kd q (l.drop b) = some .gr) :
    Calls Try.prog 22 #[.string x, .bool q, .int .i64 deep, .int .i64 b] W (endPost W b (.deep b)) := by
  have h0 := nonempty_of hx hk
  have hne := ne_list h0
  have hxm : x.size ≤ maxLen := by unfold maxLen; omega
  have HBL := Lib.hid (base_len hx)
  rw [← hx, kd_pre] at hk
  have hc : x[0] = 96 := pre_head' h0 (pick_gr _ _ _ _ _ _ _ _ hk)
  have g92 : (((x[0].toNat : Int) == 92) : Bool) = false := u8_false x[0] 92 (by rw [hc]; decide)
  have g96 : (((x[0].toNat : Int) == 96) : Bool) = true := u8_true x[0] 96 hc
  have g39 : (((x[0].toNat : Int) == 39) : Bool) = false := u8_false x[0] 39 (by rw [hc]; decide)
  have g34 : (((x[0].toNat : Int) == 34) : Bool) = false := u8_false x[0] 34 (by rw [hc]; decide)
  have HX := Lib.hid hx
  have HXM := Lib.hid hxm
  unfold maxLen at hxm
  have HE := Lib.hid (show EKP (W.alloc (.cells #[.int .i64 0, .bool false, .bool false, .int .i64 0] 40)) W.heap.size 0 false false 0 from heap_alloc_new W _)
  have HF := Lib.hid ((Fr.refl (fun _ => False) W).alloc (.cells #[.int .i64 0, .bool false, .bool false, .int .i64 0] 40))
  clear hk hx hc
  obtain rfl : deep = 25 := by omega
  cases q
  all_goals
    go_enter Try.func22, Try.ntmps22
    go_wp2
    exact bodyPost_ret (resEnds Try.f22 8 rfl (show EKP (W.alloc (.cells #[.int .i64 0, .bool false, .bool true, .int .i64 b] 40)) W.heap.size 0 false true b from heap_alloc_new W _) _ rfl) rfl ⟨rfl, (Fr.refl _ W).alloc _⟩
end Go.Proofs.Ytmkcenobghaoiaa
