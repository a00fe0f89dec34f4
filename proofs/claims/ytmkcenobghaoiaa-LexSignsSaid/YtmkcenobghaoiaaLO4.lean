/- The document's answer: part. -/
import Derived.Test.YtmkcenobghaoiaaLO0
import Derived.Test.YtmkcenobghaoiaaLN
namespace Go.Proofs.Ytmkcenobghaoiaa
open Go.RowKit
set_option linter.unusedVariables false
set_option linter.unusedSimpArgs false
set_option maxRecDepth 100000 in
set_option maxHeartbeats 16000000 in
theorem succ_dq (d : Nat) (HD : PartR d) (W : World) (l : Bs) (x : ByteArray) (b : Nat) (q : Bool) (deep : Nat) (hx : x.data.toList = l.drop b) (hb : b + x.size ≤ 4611686018427387904) (hdeep : deep + (d + 1) = 25) (hk : kd q (l.drop b) = some .dq) :
    Calls Try.prog 22 #[.string x, .bool q, .int .i64 deep, .int .i64 b] W (endPost W b (nestL (partL l d) 34 true l l.length (b + 1) 0)) := by
  have h0 := nonempty_of hx hk
  have hne := ne_list h0
  have hxm : x.size ≤ maxLen := by unfold maxLen; omega
  have HBL := Lib.hid (base_len hx)
  rw [← hx, kd_pre] at hk
  have hc : x[0] = 34 := pre_head' h0 (pick_dq _ _ _ _ _ _ _ _ hk).1
  have g92 : (((x[0].toNat : Int) == 92) : Bool) = false := u8_false x[0] 92 (by rw [hc]; decide)
  have g96 : (((x[0].toNat : Int) == 96) : Bool) = false := u8_false x[0] 96 (by rw [hc]; decide)
  have g39 : (((x[0].toNat : Int) == 39) : Bool) = false := u8_false x[0] 39 (by rw [hc]; decide)
  have g34 : (((x[0].toNat : Int) == 34) : Bool) = true := u8_true x[0] 34 hc
  have hq : q = false := (pick_dq _ _ _ _ _ _ _ _ hk).2
  subst hq
  have HX := Lib.hid hx
  have HXM := Lib.hid hxm
  unfold maxLen at hxm
  have HE := Lib.hid (show EKP (W.alloc (.cells #[.int .i64 0, .bool false, .bool false, .int .i64 0] 40)) W.heap.size 0 false false 0 from heap_alloc_new W _)
  have HF := Lib.hid ((Fr.refl (fun _ => False) W).alloc (.cells #[.int .i64 0, .bool false, .bool false, .int .i64 0] 40))
  clear hk hx hc
  have hd24 : deep ≤ 24 := by omega
  have HI := Lib.hid (fun w => (show Calls Try.prog 37 #[.string x, .int .i64 1, .int .u8 34, .int .u8 0, .bool false, .bool false, .bool true, .int .i64 deep, .int .i64 b] w (endPost w b (nestL (partL l d) 34 true l l.length (b + 1) 0)) from
    inner_any d HD w l x b 1 34 0 false false true deep l.length HX.out hb (by omega) ⟨fun _ => by simp [kd], fun h => absurd rfl h, fun _ => by decide, rfl, fun _ => rfl⟩ (by omega) (by have := HBL.out; omega)))
  generalize nestL (partL l d) 34 true l l.length (b + 1) 0 = r at *
  clear HD
  go_enter Try.func22, Try.ntmps22
  go_wp2_with (first | (go_at_call 37; (with_reducible refine (HI.out _).mono ?_); rintro e w2 ⟨rfl, hF⟩; have HF2 := Lib.hid (HF.out.trans hF); have hE2 := HE.out.fr hF id; have HE2 := Lib.hid hE2; obtain ⟨g0, g1, g2, g3, gf0, gf1, gf2, gf3⟩ := hE2.cells; clear hF hE2))
  exact bodyPost_ret (resEnds Try.f22 8 rfl (HE2.out.all (enN b r) (enM r) (enD r) (enA r)) _ rfl) rfl ⟨rfl, HF2.out.four (Nat.le_refl _) _ _ _ _⟩
set_option maxRecDepth 100000 in
set_option maxHeartbeats 16000000 in
theorem succ_su (d : Nat) (HD : PartR d) (W : World) (l : Bs) (x : ByteArray) (b : Nat) (q : Bool) (deep : Nat) (hx : x.data.toList = l.drop b) (hb : b + x.size ≤ 4611686018427387904) (hdeep : deep + (d + 1) = 25) (hk : kd q (l.drop b) = some .su) :
    Calls Try.prog 22 #[.string x, .bool q, .int .i64 deep, .int .i64 b] W (endPost W b (nestL (partL l d) 41 false l l.length (b + 2) 0)) := by
  have h0 := nonempty_of hx hk
  have hne := ne_list h0
  have hxm : x.size ≤ maxLen := by unfold maxLen; omega
  have HBL := Lib.hid (base_len hx)
  rw [← hx, kd_pre] at hk
  have hc : x[0] = 36 := pre_head' h0 (pick_su _ _ _ _ _ _ _ _ hk).2
  have g92 : (((x[0].toNat : Int) == 92) : Bool) = false := u8_false x[0] 92 (by rw [hc]; decide)
  have g96 : (((x[0].toNat : Int) == 96) : Bool) = false := u8_false x[0] 96 (by rw [hc]; decide)
  have g39 : (((x[0].toNat : Int) == 39) : Bool) = false := u8_false x[0] 39 (by rw [hc]; decide)
  have g34 : (((x[0].toNat : Int) == 34) : Bool) = false := u8_false x[0] 34 (by rw [hc]; decide)
  obtain ⟨h4, h5⟩ := pick_su _ _ _ _ _ _ _ _ hk
  have B1 := Lib.hid (fun w => (show Calls Try.prog 14 #[.string x, .string ⟨#[36, 40]⟩] w fun e w' => e = .returned (.bool true) ∧ w' = w from beg_call x [36, 40] true h5 hxm (by decide) w))
  have B3 := Lib.hid (fun w => (show Calls Try.prog 14 #[.string x, .string ⟨#[36, 40, 40]⟩] w fun e w' => e = .returned (.bool false) ∧ w' = w from beg_call x [36, 40, 40] false h4 hxm (by decide) w))
  have hl3 : 2 ≤ x.size := by have := pre_len h5; rw [size_len] at this; exact this
  clear h4 h5
  have HX := Lib.hid hx
  have HXM := Lib.hid hxm
  unfold maxLen at hxm
  have HE := Lib.hid (show EKP (W.alloc (.cells #[.int .i64 0, .bool false, .bool false, .int .i64 0] 40)) W.heap.size 0 false false 0 from heap_alloc_new W _)
  have HF := Lib.hid ((Fr.refl (fun _ => False) W).alloc (.cells #[.int .i64 0, .bool false, .bool false, .int .i64 0] 40))
  clear hk hx hc
  have hd24 : deep ≤ 24 := by omega
  cases q
  all_goals
    have HI := Lib.hid (fun w => (show Calls Try.prog 37 #[.string x, .int .i64 2, .int .u8 41, .int .u8 40, .bool true, .bool true, .bool false, .int .i64 deep, .int .i64 b] w (endPost w b (nestL (partL l d) 41 false l l.length (b + 2) 0)) from
      inner_any d HD w l x b 2 41 40 true true false deep l.length HX.out hb (by omega) ⟨fun _ => by simp [kd], fun _ => ⟨rfl, rfl⟩, fun h => absurd h (by decide), rfl, fun h => absurd h (by decide)⟩ (by omega) (by have := HBL.out; omega)))
    generalize nestL (partL l d) 41 false l l.length (b + 2) 0 = r at *
    clear HD
    go_enter Try.func22, Try.ntmps22
    go_wp2_with (first | (go_at_call 14; (with_reducible refine (B1.out _).mono ?_); rintro e w' ⟨rfl, rfl⟩) | (go_at_call 14; (with_reducible refine (B3.out _).mono ?_); rintro e w' ⟨rfl, rfl⟩) | (go_at_call 37; (with_reducible refine (HI.out _).mono ?_); rintro e w2 ⟨rfl, hF⟩; have HF2 := Lib.hid (HF.out.trans hF); have hE2 := HE.out.fr hF id; have HE2 := Lib.hid hE2; obtain ⟨g0, g1, g2, g3, gf0, gf1, gf2, gf3⟩ := hE2.cells; clear hF hE2))
    exact bodyPost_ret (resEnds Try.f22 8 rfl (HE2.out.all (enN b r) (enM r) (enD r) (enA r)) _ rfl) rfl ⟨rfl, HF2.out.four (Nat.le_refl _) _ _ _ _⟩
set_option maxRecDepth 100000 in
set_option maxHeartbeats 16000000 in
theorem succ_pa (d : Nat) (HD : PartR d) (W : World) (l : Bs) (x : ByteArray) (b : Nat) (q : Bool) (deep : Nat) (hx : x.data.toList = l.drop b) (hb : b + x.size ≤ 4611686018427387904) (hdeep : deep + (d + 1) = 25) (hk : kd q (l.drop b) = some .pa) :
    Calls Try.prog 22 #[.string x, .bool q, .int .i64 deep, .int .i64 b] W (endPost W b (nestL (partL l d) 125 q l l.length (b + 2) 0)) := by
  have h0 := nonempty_of hx hk
  have hne := ne_list h0
  have hxm : x.size ≤ maxLen := by unfold maxLen; omega
  have HBL := Lib.hid (base_len hx)
  rw [← hx, kd_pre] at hk
  have hc : x[0] = 36 := pre_head' h0 (pick_pa _ _ _ _ _ _ _ _ hk).2.2
  have g92 : (((x[0].toNat : Int) == 92) : Bool) = false := u8_false x[0] 92 (by rw [hc]; decide)
  have g96 : (((x[0].toNat : Int) == 96) : Bool) = false := u8_false x[0] 96 (by rw [hc]; decide)
  have g39 : (((x[0].toNat : Int) == 39) : Bool) = false := u8_false x[0] 39 (by rw [hc]; decide)
  have g34 : (((x[0].toNat : Int) == 34) : Bool) = false := u8_false x[0] 34 (by rw [hc]; decide)
  obtain ⟨h4, h5, h6⟩ := pick_pa _ _ _ _ _ _ _ _ hk
  have B1 := Lib.hid (fun w => (show Calls Try.prog 14 #[.string x, .string ⟨#[36, 40]⟩] w fun e w' => e = .returned (.bool false) ∧ w' = w from beg_call x [36, 40] false h5 hxm (by decide) w))
  have B2 := Lib.hid (fun w => (show Calls Try.prog 14 #[.string x, .string ⟨#[36, 123]⟩] w fun e w' => e = .returned (.bool true) ∧ w' = w from beg_call x [36, 123] true h6 hxm (by decide) w))
  have B3 := Lib.hid (fun w => (show Calls Try.prog 14 #[.string x, .string ⟨#[36, 40, 40]⟩] w fun e w' => e = .returned (.bool false) ∧ w' = w from beg_call x [36, 40, 40] false h4 hxm (by decide) w))
  have hl3 : 2 ≤ x.size := by have := pre_len h6; rw [size_len] at this; exact this
  clear h4 h5 h6
  have HX := Lib.hid hx
  have HXM := Lib.hid hxm
  unfold maxLen at hxm
  have HE := Lib.hid (show EKP (W.alloc (.cells #[.int .i64 0, .bool false, .bool false, .int .i64 0] 40)) W.heap.size 0 false false 0 from heap_alloc_new W _)
  have HF := Lib.hid ((Fr.refl (fun _ => False) W).alloc (.cells #[.int .i64 0, .bool false, .bool false, .int .i64 0] 40))
  clear hk hx hc
  have hd24 : deep ≤ 24 := by omega
  cases q
  case' false =>
    have HI := Lib.hid (fun w => (show Calls Try.prog 37 #[.string x, .int .i64 2, .int .u8 125, .int .u8 0, .bool true, .bool true, .bool false, .int .i64 deep, .int .i64 b] w (endPost w b (nestL (partL l d) 125 false l l.length (b + 2) 0)) from
      inner_any d HD w l x b 2 125 0 true true false deep l.length HX.out hb (by omega) ⟨fun _ => by simp [kd], fun h => absurd rfl h, fun _ => by decide, rfl, fun h => absurd h (by decide)⟩ (by omega) (by have := HBL.out; omega)))
    generalize nestL (partL l d) 125 false l l.length (b + 2) 0 = r at *
    clear HD
    go_enter Try.func22, Try.ntmps22
    go_wp2_with (first | (go_at_call 14; (with_reducible refine (B1.out _).mono ?_); rintro e w' ⟨rfl, rfl⟩) | (go_at_call 14; (with_reducible refine (B2.out _).mono ?_); rintro e w' ⟨rfl, rfl⟩) | (go_at_call 14; (with_reducible refine (B3.out _).mono ?_); rintro e w' ⟨rfl, rfl⟩) | (go_at_call 37; (with_reducible refine (HI.out _).mono ?_); rintro e w2 ⟨rfl, hF⟩; have HF2 := Lib.hid (HF.out.trans hF); have hE2 := HE.out.fr hF id; have HE2 := Lib.hid hE2; obtain ⟨g0, g1, g2, g3, gf0, gf1, gf2, gf3⟩ := hE2.cells; clear hF hE2))
    exact bodyPost_ret (resEnds Try.f22 8 rfl (HE2.out.all (enN b r) (enM r) (enD r) (enA r)) _ rfl) rfl ⟨rfl, HF2.out.four (Nat.le_refl _) _ _ _ _⟩
  case' true =>
    have HI := Lib.hid (fun w => (show Calls Try.prog 37 #[.string x, .int .i64 2, .int .u8 125, .int .u8 0, .bool false, .bool true, .bool true, .int .i64 deep, .int .i64 b] w (endPost w b (nestL (partL l d) 125 true l l.length (b + 2) 0)) from
      inner_any d HD w l x b 2 125 0 false true true deep l.length HX.out hb (by omega) ⟨fun _ => by simp [kd], fun h => absurd rfl h, fun _ => by decide, rfl, fun h => absurd h (by decide)⟩ (by omega) (by have := HBL.out; omega)))
    generalize nestL (partL l d) 125 true l l.length (b + 2) 0 = r at *
    clear HD
    go_enter Try.func22, Try.ntmps22
    go_wp2_with (first | (go_at_call 14; (with_reducible refine (B1.out _).mono ?_); rintro e w' ⟨rfl, rfl⟩) | (go_at_call 14; (with_reducible refine (B2.out _).mono ?_); rintro e w' ⟨rfl, rfl⟩) | (go_at_call 14; (with_reducible refine (B3.out _).mono ?_); rintro e w' ⟨rfl, rfl⟩) | (go_at_call 37; (with_reducible refine (HI.out _).mono ?_); rintro e w2 ⟨rfl, hF⟩; have HF2 := Lib.hid (HF.out.trans hF); have hE2 := HE.out.fr hF id; have HE2 := Lib.hid hE2; obtain ⟨g0, g1, g2, g3, gf0, gf1, gf2, gf3⟩ := hE2.cells; clear hF hE2))
    exact bodyPost_ret (resEnds Try.f22 8 rfl (HE2.out.all (enN b r) (enM r) (enD r) (enA r)) _ rfl) rfl ⟨rfl, HF2.out.four (Nat.le_refl _) _ _ _ _⟩
end Go.Proofs.Ytmkcenobghaoiaa
