/- The document's answer: part. -/
/- The document's answer: part. -/
/- The document's answer: Signs, sign, word. -/
import Derived.Test.YtoahgblgchmclaaLO3
import Derived.Test.YtoahgblgchmclaaLN
namespace Go.Proofs.Ytoahgblgchmclaa
open Go.RowKit
set_option linter.unusedVariables false
set_option linter.unusedSimpArgs false
set_option maxRecDepth 100000 in
set_option maxHeartbeats 16000000 in
theorem succ_dq (d : Nat) (HD : PartR d) (W : World) (l : Bs) (x : ByteArray) (b : Nat) (q : Bool) (deep : Nat) (hx : x.data.toList = l.drop b) (hb : b + x.size ≤ 4611686018427387904) (hdeep : deep + (d + 1) = 25) (hk : kd q (l.drop b) = some .dq) :
    Calls Try.prog 29 #[.string x, .bool q, .int .i64 deep, .int .i64 b] W (endPost W b (nestL (partL l d) 34 true l l.length (b + 1) 0)) := by
  have h0 := nonempty_of hx hk
  have hne := ne_list h0
  have hxm : x.size ≤ maxLen := by unfold maxLen; omega
  have HBL := Lib.hid (base_len hx)
  rw [← hx, kd_pre] at hk
  have hc : x[0] = 34 := pre_head' h0 (pick_dq _ _ _ _ _ _ _ _ hk).1
  have g92 : (((x[0].toNat : Int) == 92) : Bool) = false := u8_false x[0] 92 (by rw [hc]; decide)
  have g96 : (((x[0].toNat : Int) == 96) : Bool) = false := u8_false x[0] 96 (by rw [hc]; decide)
  have g39 : (((x[0].toNat : Int) == 39) : Bool) = false := u8_false x[0] 39 (by rw [hc]; decide)
  have g34 : (((x[0].toNat : Int) == 34) : Bool) = true := u8_true x[0] 34 hc
  have hq : q = false := (pick_dq _ _ _ _ _ _ _ _ hk).2
  subst hq
  have HX := Lib.hid hx
  have HXM := Lib.hid hxm
  unfold maxLen at hxm
  have HE := Lib.hid (show EKP (W.alloc (.cells #[.int .i64 0, .bool false, .bool false, .int .i64 0] 51)) W.heap.size 0 false false 0 from heap_alloc_new W _)
  have HF := Lib.hid ((Fr.refl (fun _ => False) W).alloc (.cells #[.int .i64 0, .bool false, .bool false, .int .i64 0] 51))
  clear hk hx hc
  have hd24 : deep ≤ 24 := by omega
  have HI := Lib.hid (fun w => (show Calls Try.prog 43 #[.string x, .int .i64 1, .int .u8 34, .int .u8 0, .bool false, .bool false, .bool true, .int .i64 deep, .int .i64 b] w (endPost w b (nestL (partL l d) 34 true l l.length (b + 1) 0)) from
    inner_any d HD w l x b 1 34 0 false false true deep l.length HX.out hb (by omega) ⟨fun _ => by simp [kd], fun h => absurd rfl h, fun _ => by decide, rfl, fun _ => rfl⟩ (by omega) (by have := HBL.out; omega)))
  generalize nestL (partL l d) 34 true l l.length (b + 1) 0 = r at *
  clear HD
  go_enter Try.func29, Try.ntmps29
  go_wp2_with (first | (go_at_call 43; (with_reducible refine (HI.out _).mono ?_); rintro e w2 ⟨rfl, hF⟩; have HF2 := Lib.hid (HF.out.trans hF); have hE2 := HE.out.fr hF id; have HE2 := Lib.hid hE2; obtain ⟨g0, g1, g2, g3, gf0, gf1, gf2, gf3⟩ := hE2.cells; clear hF hE2))
  exact bodyPost_ret (resEnds Try.f29 8 rfl (HE2.out.all (enN b r) (enM r) (enD r) (enA r)) _ rfl) rfl ⟨rfl, HF2.out.four (Nat.le_refl _) _ _ _ _⟩
set_option maxRecDepth 100000 in
set_option maxHeartbeats 16000000 in
theorem succ_su (d : Nat) (HD : PartR d) (W : World) (l : Bs) (x : ByteArray) (b : Nat) (q : Bool) (deep : Nat) (hx : x.data.toList = l.drop b) (hb : b + x.size ≤ 4611686018427387904) (hdeep : deep + (d + 1) = 25) (hk : kd q (l.drop b) = some .su) :
    Calls Try.prog 29 #[.string x, .bool q, .int .i64 deep, .int .i64 b] W (endPost W b (nestL (partL l d) 41 false l l.length (b + 2) 0)) := by
  have h0 := nonempty_of hx hk
  have hne := ne_list h0
  have hxm : x.size ≤ maxLen := by unfold maxLen; omega
  have HBL := Lib.hid (base_len hx)
  rw [← hx, kd_pre] at hk
  have hc : x[0] = 36 := pre_head' h0 (pick_su _ _ _ _ _ _ _ _ hk).2
  have g92 : (((x[0].toNat : Int) == 92) : Bool) = false := u8_false x[0] 92 (by rw [hc]; decide)
  have g96 : (((x[0].toNat : Int) == 96) : Bool) = false := u8_false x[0] 96 (by rw [hc]; decide)
  have g39 : (((x[0].toNat : Int) == 39) : Bool) = false := u8_false x[0] 39 (by rw [hc]; decide)
  have g34 : (((x[0].toNat : Int) == 34) : Bool) = false := u8_false x[0] 34 (by rw [hc]; decide)
  obtain ⟨h4, h5⟩ := pick_su _ _ _ _ _ _ _ _ hk
  have B1 := Lib.hid (fun w => (show Calls Try.prog 16 #[.string x, .string ⟨#[36, 40]⟩] w fun e w' => e = .returned (.bool true) ∧ w' = w from beg_call x [36, 40] true h5 hxm (by decide) w))
  have B3 := Lib.hid (fun w => (show Calls Try.prog 16 #[.string x, .string ⟨#[36, 40, 40]⟩] w fun e w' => e = .returned (.bool false) ∧ w' = w from beg_call x [36, 40, 40] false h4 hxm (by decide) w))
  have hl3 : 2 ≤ x.size := by have := pre_len h5; rw [size_len] at this; exact this
  clear h4 h5
  have HX := Lib.hid hx
  have HXM := Lib.hid hxm
  unfold maxLen at hxm
  have HE := Lib.hid (show EKP (W.alloc (.cells #[.int .i64 0, .bool false, .bool false, .int .i64 0] 51)) W.heap.size 0 false false 0 from heap_alloc_new W _)
  have HF := Lib.hid ((Fr.refl (fun _ => False) W).alloc (.cells #[.int .i64 0, .bool false, .bool false, .int .i64 0] 51))
  clear hk hx hc
  have hd24 : deep ≤ 24 := by omega
  cases q
  all_goals
    have HI := Lib.hid (fun w => (show Calls Try.prog 43 #[.string x, .int .i64 2, .int .u8 41, .int .u8 40, .bool true, .bool true, .bool false, .int .i64 deep, .int .i64 b] w (endPost w b (nestL (partL l d) 41 false l l.length (b + 2) 0)) from
      inner_any d HD w l x b 2 41 40 true true false deep l.length HX.out hb (by omega) ⟨fun _ => by simp [kd], fun _ => ⟨rfl, rfl⟩, fun h => absurd h (by decide), rfl, fun h => absurd h (by decide)⟩ (by omega) (by have := HBL.out; omega)))
    generalize nestL (partL l d) 41 false l l.length (b + 2) 0 = r at *
    clear HD
    go_enter Try.func29, Try.ntmps29
    go_wp2_with (first | (go_at_call 16; (with_reducible refine (B1.out _).mono ?_); rintro e w' ⟨rfl, rfl⟩) | (go_at_call 16; (with_reducible refine (B3.out _).mono ?_); rintro e w' ⟨rfl, rfl⟩) | (go_at_call 43; (with_reducible refine (HI.out _).mono ?_); rintro e w2 ⟨rfl, hF⟩; have HF2 := Lib.hid (HF.out.trans hF); have hE2 := HE.out.fr hF id; have HE2 := Lib.hid hE2; obtain ⟨g0, g1, g2, g3, gf0, gf1, gf2, gf3⟩ := hE2.cells; clear hF hE2))
    exact bodyPost_ret (resEnds Try.f29 8 rfl (HE2.out.all (enN b r) (enM r) (enD r) (enA r)) _ rfl) rfl ⟨rfl, HF2.out.four (Nat.le_refl _) _ _ _ _⟩
set_option maxRecDepth 100000 in
set_option maxHeartbeats 16000000 in
theorem succ_pa (d : Nat) (HD : PartR d) (W : World) (l : Bs) (x : ByteArray) (b : Nat) (q : Bool) (deep : Nat) (hx : x.data.toList = l.drop b) (hb : b + x.size ≤ 4611686018427387904) (hdeep : deep + (d + 1) = 25) (hk : kd q (l.drop b) = some .pa) :
    Calls Try.prog 29 #[.string x, .bool q, .int .i64 deep, .int .i64 b] W (endPost W b (nestL (partL l d) 125 q l l.length (b + 2) 0)) := by
  have h0 := nonempty_of hx hk
  have hne := ne_list h0
  have hxm : x.size ≤ maxLen := by unfold maxLen; omega
  have HBL := Lib.hid (base_len hx)
  rw [← hx, kd_pre] at hk
  have hc : x[0] = 36 := pre_head' h0 (pick_pa _ _ _ _ _ _ _ _ hk).2.2
  have g92 : (((x[0].toNat : Int) == 92) : Bool) = false := u8_false x[0] 92 (by rw [hc]; decide)
  have g96 : (((x[0].toNat : Int) == 96) : Bool) = false := u8_false x[0] 96 (by rw [hc]; decide)
  have g39 : (((x[0].toNat : Int) == 39) : Bool) = false := u8_false x[0] 39 (by rw [hc]; decide)
  have g34 : (((x[0].toNat : Int) == 34) : Bool) = false := u8_false x[0] 34 (by rw [hc]; decide)
  obtain ⟨h4, h5, h6⟩ := pick_pa _ _ _ _ _ _ _ _ hk
  have B1 := Lib.hid (fun w => (show Calls Try.prog 16 #[.string x, .string ⟨#[36, 40]⟩] w fun e w' => e = .returned (.bool false) ∧ w' = w from beg_call x [36, 40] false h5 hxm (by decide) w))
  have B2 := Lib.hid (fun w => (show Calls Try.prog 16 #[.string x, .string ⟨#[36, 123]⟩] w fun e w' => e = .returned (.bool true) ∧ w' = w from beg_call x [36, 123] true h6 hxm (by decide) w))
  have B3 := Lib.hid (fun w => (show Calls Try.prog 16 #[.string x, .string ⟨#[36, 40, 40]⟩] w fun e w' => e = .returned (.bool false) ∧ w' = w from beg_call x [36, 40, 40] false h4 hxm (by decide) w))
  have hl3 : 2 ≤ x.size := by have := pre_len h6; rw [size_len] at this; exact this
  clear h4 h5 h6
  have HX := Lib.hid hx
  have HXM := Lib.hid hxm
  unfold maxLen at hxm
  have HE := Lib.hid (show EKP (W.alloc (.cells #[.int .i64 0, .bool false, .bool false, .int .i64 0] 51)) W.heap.size 0 false false 0 from heap_alloc_new W _)
  have HF := Lib.hid ((Fr.refl (fun _ => False) W).alloc (.cells #[.int .i64 0, .bool false, .bool false, .int .i64 0] 51))
  clear hk hx hc
  have hd24 : deep ≤ 24 := by omega
  cases q
  case' false =>
    have HI := Lib.hid (fun w => (show Calls Try.prog 43 #[.string x, .int .i64 2, .int .u8 125, .int .u8 0, .bool true, .bool true, .bool false, .int .i64 deep, .int .i64 b] w (endPost w b (nestL (partL l d) 125 false l l.length (b + 2) 0)) from
      inner_any d HD w l x b 2 125 0 true true false deep l.length HX.out hb (by omega) ⟨fun _ => by simp [kd], fun h => absurd rfl h, fun _ => by decide, rfl, fun h => absurd h (by decide)⟩ (by omega) (by have := HBL.out; omega)))
    generalize nestL (partL l d) 125 false l l.length (b + 2) 0 = r at *
    clear HD
    go_enter Try.func29, Try.ntmps29
    go_wp2_with (first | (go_at_call 16; (with_reducible refine (B1.out _).mono ?_); rintro e w' ⟨rfl, rfl⟩) | (go_at_call 16; (with_reducible refine (B2.out _).mono ?_); rintro e w' ⟨rfl, rfl⟩) | (go_at_call 16; (with_reducible refine (B3.out _).mono ?_); rintro e w' ⟨rfl, rfl⟩) | (go_at_call 43; (with_reducible refine (HI.out _).mono ?_); rintro e w2 ⟨rfl, hF⟩; have HF2 := Lib.hid (HF.out.trans hF); have hE2 := HE.out.fr hF id; have HE2 := Lib.hid hE2; obtain ⟨g0, g1, g2, g3, gf0, gf1, gf2, gf3⟩ := hE2.cells; clear hF hE2))
    exact bodyPost_ret (resEnds Try.f29 8 rfl (HE2.out.all (enN b r) (enM r) (enD r) (enA r)) _ rfl) rfl ⟨rfl, HF2.out.four (Nat.le_refl _) _ _ _ _⟩
  case' true =>
    have HI := Lib.hid (fun w => (show Calls Try.prog 43 #[.string x, .int .i64 2, .int .u8 125, .int .u8 0, .bool false, .bool true, .bool true, .int .i64 deep, .int .i64 b] w (endPost w b (nestL (partL l d) 125 true l l.length (b + 2) 0)) from
      inner_any d HD w l x b 2 125 0 false true true deep l.length HX.out hb (by omega) ⟨fun _ => by simp [kd], fun h => absurd rfl h, fun _ => by decide, rfl, fun h => absurd h (by decide)⟩ (by omega) (by have := HBL.out; omega)))
    generalize nestL (partL l d) 125 true l l.length (b + 2) 0 = r at *
    clear HD
    go_enter Try.func29, Try.ntmps29
    go_wp2_with (first | (go_at_call 16; (with_reducible refine (B1.out _).mono ?_); rintro e w' ⟨rfl, rfl⟩) | (go_at_call 16; (with_reducible refine (B2.out _).mono ?_); rintro e w' ⟨rfl, rfl⟩) | (go_at_call 16; (with_reducible refine (B3.out _).mono ?_); rintro e w' ⟨rfl, rfl⟩) | (go_at_call 43; (with_reducible refine (HI.out _).mono ?_); rintro e w2 ⟨rfl, hF⟩; have HF2 := Lib.hid (HF.out.trans hF); have hE2 := HE.out.fr hF id; have HE2 := Lib.hid hE2; obtain ⟨g0, g1, g2, g3, gf0, gf1, gf2, gf3⟩ := hE2.cells; clear hF hE2))
    exact bodyPost_ret (resEnds Try.f29 8 rfl (HE2.out.all (enN b r) (enM r) (enD r) (enA r)) _ rfl) rfl ⟨rfl, HF2.out.four (Nat.le_refl _) _ _ _ _⟩
end Go.Proofs.Ytoahgblgchmclaa
namespace Go.Proofs.Ytoahgblgchmclaa
open Go.RowKit
set_option linter.unusedVariables false
set_option linter.unusedSimpArgs false
set_option maxRecDepth 100000 in
set_option maxHeartbeats 16000000 in
theorem part_none (W : World) (l : Bs) (x : ByteArray) (b : Nat) (q : Bool) (deep : Nat) (hx : x.data.toList = l.drop b) (hb : b + x.size ≤ 4611686018427387904) (hk : kd q (l.drop b) = none) :
    Calls Try.prog 29 #[.string x, .bool q, .int .i64 deep, .int .i64 b] W (endPost W b (.ok b)) := by
  have hxm : x.size ≤ maxLen := by unfold maxLen; omega
  have HE := Lib.hid (show EKP (W.alloc (.cells #[.int .i64 0, .bool false, .bool false, .int .i64 0] 51)) W.heap.size 0 false false 0 from heap_alloc_new W _)
  have HF := Lib.hid ((Fr.refl (fun _ => False) W).alloc (.cells #[.int .i64 0, .bool false, .bool false, .int .i64 0] 51))
  by_cases h0 : x.size = 0
  · have hne := yes_list h0
    clear hx hk
    go_enter Try.func29, Try.ntmps29
    go_wp2
    refine bodyPost_ret (resEnds Try.f29 8 rfl (show EKP (W.alloc (.cells #[.int .i64 0, .bool false, .bool false, .int .i64 0] 51)) W.heap.size 0 false false 0 from heap_alloc_new W _) _ rfl) rfl ⟨?_, (Fr.refl _ W).alloc _⟩
    rw [show enN b (.ok b) = 0 from Nat.sub_self _]; rfl
  · have h0 : 0 < x.size := by omega
    have hne := ne_list h0
    rw [← hx, kd_pre] at hk
    obtain ⟨p1, p5, p6, p7, p23⟩ := pick_none hk
    have g92 : (((x[0].toNat : Int) == 92) : Bool) = false := u8_false x[0] 92 (pre_no h0 p1)
    have g96 : (((x[0].toNat : Int) == 96) : Bool) = false := u8_false x[0] 96 (pre_no h0 p7)
    have B1 := Lib.hid (fun w => (show Calls Try.prog 16 #[.string x, .string ⟨#[36, 40]⟩] w fun e w' => e = .returned (.bool false) ∧ w' = w from beg_call x [36, 40] false p5 hxm (by decide) w))
    have B2 := Lib.hid (fun w => (show Calls Try.prog 16 #[.string x, .string ⟨#[36, 123]⟩] w fun e w' => e = .returned (.bool false) ∧ w' = w from beg_call x [36, 123] false p6 hxm (by decide) w))
    unfold maxLen at hxm
    clear hk hx p1 p5 p6 p7
    cases q
    · have g39 : (((x[0].toNat : Int) == 39) : Bool) = false := u8_false x[0] 39 (pre_no h0 (p23.resolve_left (by decide)).1)
      have g34 : (((x[0].toNat : Int) == 34) : Bool) = false := u8_false x[0] 34 (pre_no h0 (p23.resolve_left (by decide)).2)
      clear p23
      go_enter Try.func29, Try.ntmps29
      go_wp2_with (first | (go_at_call 16; (with_reducible refine (B1.out _).mono ?_); rintro e w' ⟨rfl, rfl⟩) | (go_at_call 16; (with_reducible refine (B2.out _).mono ?_); rintro e w' ⟨rfl, rfl⟩))
      refine bodyPost_ret (resEnds Try.f29 8 rfl (show EKP (W.alloc (.cells #[.int .i64 0, .bool false, .bool false, .int .i64 0] 51)) W.heap.size 0 false false 0 from heap_alloc_new W _) _ rfl) rfl ⟨?_, (Fr.refl _ W).alloc _⟩
      rw [show enN b (.ok b) = 0 from Nat.sub_self _]; rfl
    · clear p23
      go_enter Try.func29, Try.ntmps29
      go_wp2_with (first | (go_at_call 16; (with_reducible refine (B1.out _).mono ?_); rintro e w' ⟨rfl, rfl⟩) | (go_at_call 16; (with_reducible refine (B2.out _).mono ?_); rintro e w' ⟨rfl, rfl⟩))
      refine bodyPost_ret (resEnds Try.f29 8 rfl (show EKP (W.alloc (.cells #[.int .i64 0, .bool false, .bool false, .int .i64 0] 51)) W.heap.size 0 false false 0 from heap_alloc_new W _) _ rfl) rfl ⟨?_, (Fr.refl _ W).alloc _⟩
      rw [show enN b (.ok b) = 0 from Nat.sub_self _]; rfl
theorem rpart_any (d : Nat) : PartR d := by
  induction d with
  | zero =>
    intro W l x b q deep hx hb hd
    unfold partE
    cases hk : kd q (l.drop b) with
    | none => exact part_none W l x b q deep hx hb hk
    | some k =>
      cases k
      case esc => exact zero_esc W l x b q deep hx hb hd hk
      case sq => exact zero_sq W l x b q deep hx hb hd hk
      case dq => exact zero_dq W l x b q deep hx hb hd hk
      case ar => exact zero_ar W l x b q deep hx hb hd hk
      case su => exact zero_su W l x b q deep hx hb hd hk
      case pa => exact zero_pa W l x b q deep hx hb hd hk
      case gr => exact zero_gr W l x b q deep hx hb hd hk
  | succ d ih =>
    intro W l x b q deep hx hb hd
    unfold partE
    cases hk : kd q (l.drop b) with
    | none => exact part_none W l x b q deep hx hb hk
    | some k =>
      cases k
      case esc => exact succ_esc d W l x b q deep hx hb hd hk
      case sq => exact succ_sq d W l x b q deep hx hb hd hk
      case dq => exact succ_dq d ih W l x b q deep hx hb hd hk
      case ar => exact succ_ar d W l x b q deep hx hb hd hk
      case su => exact succ_su d ih W l x b q deep hx hb hd hk
      case pa => exact succ_pa d ih W l x b q deep hx hb hd hk
      case gr => exact succ_gr d W l x b q deep hx hb hd hk
end Go.Proofs.Ytoahgblgchmclaa
namespace Go.Proofs.Ytoahgblgchmclaa
open Go.RowKit
set_option linter.unusedVariables false
set_option linter.unusedSimpArgs false
def SG : List Bs := [[38, 38], [124, 124], [59, 59], [62, 62], [60, 38], [62, 38], [60, 62], [62, 124], [10], [124], [59], [38], [40], [41], [60], [62]]
def sgV : Array Value := #[.string ⟨#[38, 38]⟩, .string ⟨#[124, 124]⟩, .string ⟨#[59, 59]⟩, .string ⟨#[62, 62]⟩, .string ⟨#[60, 38]⟩, .string ⟨#[62, 38]⟩, .string ⟨#[60, 62]⟩, .string ⟨#[62, 124]⟩, .string ⟨#[10]⟩, .string ⟨#[124]⟩, .string ⟨#[59]⟩, .string ⟨#[38]⟩, .string ⟨#[40]⟩, .string ⟨#[41]⟩, .string ⟨#[60]⟩, .string ⟨#[62]⟩]
theorem sgV_eq : sgV = (SG.map (fun p => Value.string (st p))).toArray := rfl
theorem sgV_get (i : Nat) (h : i < 16) : sgV[i]? = some (.string (st (SG.getD i []))) := by
  match i, h with
  | 0, _ => rfl
  | 1, _ => rfl
  | 2, _ => rfl
  | 3, _ => rfl
  | 4, _ => rfl
  | 5, _ => rfl
  | 6, _ => rfl
  | 7, _ => rfl
  | 8, _ => rfl
  | 9, _ => rfl
  | 10, _ => rfl
  | 11, _ => rfl
  | 12, _ => rfl
  | 13, _ => rfl
  | 14, _ => rfl
  | 15, _ => rfl
  | n + 16, h => exact absurd h (by omega)
theorem rSigns_any (W : World) :
    Calls Try.prog 27 #[] W fun e w' => e = .returned (.slice (some ⟨W.heap.size, 0, none⟩) 16 16) ∧ w' = W.alloc (.cells sgV 9) := by
  go_enter Try.func27, Try.ntmps27
  go_wp2
  go_ret
  exact ⟨rfl, rfl⟩
def sgFind (l : Bs) : List Bs → Bs
  | [] => []
  | p :: r => if pre p l = true then p else sgFind l r
theorem sgFind_eq (l : Bs) : sgFind l SG = l.take (sg l) := by
  cases l with
  | nil => rfl
  | cons c r =>
    simp only [sgFind, SG, pre_one, pre_two, decide_eq_true_eq]
    cases r with
    | nil =>
      simp only [List.head?_nil, reduceCtorEq, and_false, if_false]
      unfold sg
      simp only [List.head?_nil, reduceCtorEq, and_false, or_false, if_false]
      by_cases h10 : c = 10
      · subst h10; simp
      by_cases h124 : c = 124
      · subst h124; simp
      by_cases h59 : c = 59
      · subst h59; simp
      by_cases h38 : c = 38
      · subst h38; simp
      by_cases h40 : c = 40
      · subst h40; simp
      by_cases h41 : c = 41
      · subst h41; simp
      by_cases h60 : c = 60
      · subst h60; simp
      by_cases h62 : c = 62
      · subst h62; simp
      simp [h10, h124, h59, h38, h40, h41, h60, h62]
    | cons d r =>
      simp only [List.head?_cons, Option.some.injEq]
      unfold sg
      simp only [List.head?_cons, Option.some.injEq]
      by_cases h38 : c = 38
      · subst h38
        by_cases k38 : d = 38
        · subst k38; simp
        simp [k38]
      by_cases h124 : c = 124
      · subst h124
        by_cases k124 : d = 124
        · subst k124; simp
        simp [k124]
      by_cases h59 : c = 59
      · subst h59
        by_cases k59 : d = 59
        · subst k59; simp
        simp [k59]
      by_cases h62 : c = 62
      · subst h62
        by_cases k62 : d = 62
        · subst k62; simp
        by_cases k38 : d = 38
        · subst k38; simp
        by_cases k124 : d = 124
        · subst k124; simp
        simp [k62, k38, k124]
      by_cases h60 : c = 60
      · subst h60
        by_cases k38 : d = 38
        · subst k38; simp
        by_cases k62 : d = 62
        · subst k62; simp
        simp [k38, k62]
      by_cases h10 : c = 10
      · subst h10; simp
      by_cases h40 : c = 40
      · subst h40; simp
      by_cases h41 : c = 41
      · subst h41; simp
      simp [h10, h124, h59, h38, h40, h41, h60, h62]
def sgRel (W : World) (x : ByteArray) (F : Bs) (iv : Value) (wr : World) : Prop :=
  ∃ i : Nat, iv = .int .i64 i ∧ wr.heap[W.heap.size]? = some (.cells sgV 9 (0, 0)) ∧ Fr (fun _ => False) W wr ∧ i ≤ 16 ∧ sgFind x.data.toList (SG.drop i) = F
set_option maxHeartbeats 8000000 in
theorem rsign_any (x : ByteArray) (hx : x.size ≤ maxLen) (W : World) :
    Calls Try.prog 17 #[.string x] W fun e w' => e = .returned (.string (st (x.data.toList.take (sg x.data.toList)))) ∧ Fr (fun _ => False) W w' := by
  rw [← sgFind_eq]
  obtain ⟨F, hF⟩ : ∃ F, sgFind x.data.toList SG = F := ⟨_, rfl⟩
  rw [hF]
  have HF0 := Lib.hid hF
  clear hF
  have HS := Lib.hid (rSigns_any W)
  have HN := Lib.hid (show (W.alloc (.cells sgV 9)).heap[W.heap.size]? = some (.cells sgV 9 (0, 0)) from heap_alloc_new W _)
  have HW := Lib.hid ((Fr.refl (fun _ => False) W).alloc (.cells sgV 9))
  go_enter Try.func17, Try.ntmps17
  go_wp2_with (go_at_call 27; (with_reducible refine HS.out.mono ?_); rintro e w1 ⟨rfl, rfl⟩)
  go_loopw [4] (fun iv wr => sgRel W x F iv wr) (fun iv _ => 16 - (intOf iv).toNat)
  case atStart => exact ⟨0, rfl, HN.out, HW.out, by omega, HF0.out⟩
  case round =>
    obtain ⟨i, rfl, hb, hW, hi, hf⟩ := hrel
    clear HF0 HN HW HS
    have HB := Lib.hid hb
    have HW := Lib.hid hW
    by_cases h16 : i < 16
    · have hd : SG.drop i = SG.getD i [] :: SG.drop (i + 1) := by
        rw [List.drop_eq_getElem_cons h16, List.getD_eq_getElem?_getD, List.getElem?_eq_getElem h16]; rfl
      rw [hd, sgFind] at hf
      have hc : wr.cell? ⟨W.heap.size, i, none⟩ = some (.string (st (SG.getD i []))) := by
        rw [Lib.cell_of_heap hb]; exact sgV_get i h16
      have HP := Lib.hid (fun v hv w => beg_call x (SG.getD i []) v hv hx (by
        match i, h16 with
        | 0, _ => decide
        | 1, _ => decide
        | 2, _ => decide
        | 3, _ => decide
        | 4, _ => decide
        | 5, _ => decide
        | 6, _ => decide
        | 7, _ => decide
        | 8, _ => decide
        | 9, _ => decide
        | 10, _ => decide
        | 11, _ => decide
        | 12, _ => decide
        | 13, _ => decide
        | 14, _ => decide
        | 15, _ => decide
        | n + 16, h => exact absurd h (by omega)) w)
      clear hb hW hd
      by_cases hp : pre (SG.getD i []) x.data.toList = true
      · rw [if_pos hp] at hf
        have HP := Lib.hid (HP.out true hp)
        have HV := Lib.hid hf
        clear hf hp
        generalize SG.getD i [] = y at *
        go_wp2_with (go_at_call 16; (with_reducible refine (HP.out _).mono ?_); rintro e w' ⟨rfl, rfl⟩)
        go_ret
        exact ⟨congrArg (fun v => Ending.returned (Value.string (st v))) HV.out, HW.out⟩
      · rw [if_neg hp] at hf
        have HP := Lib.hid (HP.out false (by simpa using hp))
        have HV := Lib.hid hf
        clear hf hp
        generalize SG.getD i [] = y at *
        go_wp2_with (go_at_call 16; (with_reducible refine (HP.out _).mono ?_); rintro e w' ⟨rfl, rfl⟩)
        go_roundw
        case rel => exact ⟨i + 1, by go_num, HB.out, HW.out, h16, HV.out⟩
        case measure => simp [intOf]; omega
    · obtain rfl : i = 16 := by omega
      have hf : F = [] := by rw [← hf]; rfl
      have HV := Lib.hid hf
      clear hb hW hf
      go_wp2
      go_ret
      exact ⟨congrArg (fun v => Ending.returned (Value.string (st v))) HV.out.symm, HW.out⟩
def wrRel (W : World) (l : Bs) (x : ByteArray) (b : Nat) (r : R) (iv : Value) (wr : World) : Prop :=
  ∃ (i n : Nat), iv = .int .i64 i ∧ EKP wr W.heap.size 0 false false 0 ∧ Fr (fun _ => False) W wr ∧ i ≤ x.size ∧ x.size - i ≤ n ∧ wordL l n (b + i) = r
set_option maxRecDepth 100000 in
set_option maxHeartbeats 16000000 in
theorem rword_any (W : World) (l : Bs) (x : ByteArray) (b n : Nat) (hx : x.data.toList = l.drop b) (hb : b + x.size ≤ 4611686018427387904) (hbl : b ≤ l.length) (hn : x.size ≤ n) :
    Calls Try.prog 18 #[.string x, .int .i64 b] W (endPost W b (wordL l n b)) := by
  obtain ⟨r, hr⟩ : ∃ r, wordL l n b = r := ⟨_, rfl⟩
  rw [hr]
  have HR0 := Lib.hid hr
  have HN0 := Lib.hid hn
  have HX := Lib.hid hx
  have HBL := Lib.hid (base_len hx)
  clear hr hn hx
  go_enter Try.func18, Try.ntmps18
  go_wp2
  go_loopw [5, 6, 7] (fun iv _ _ wr => wrRel W l x b r iv wr) (fun iv _ _ _ => x.size - (intOf iv).toNat)
  case atStart => exact ⟨0, n, rfl, heap_alloc_new W _, (Fr.refl _ _).alloc _, Nat.zero_le _, HN0.out, HR0.out⟩
  case round =>
    obtain ⟨i, n, rfl, hE, hF, hi, hn, hr⟩ := hrel
    clear HR0 HN0
    have HE := Lib.hid hE
    have HF := Lib.hid hF
    obtain ⟨e0, e1, e2, e3, ef0, ef1, ef2, ef3⟩ := hE.cells
    clear hE hF
    by_cases his : i < x.size
    · obtain ⟨m, rfl⟩ : ∃ m, n = m + 1 := ⟨n - 1, by omega⟩
      have hm : x.size - (i + 1) ≤ m := by omega
      have hl1 : b + x.size ≤ l.length := by have := HBL.out; omega
      have hl2 : l.length ≤ b + x.size := by have := HBL.out; omega
      have hll : b + i < l.length := by omega
      have hgd := base_at HX.out his
      rw [wordL, if_neg (by omega), hgd] at hr
      have HS := Lib.hid (fun w => rstops_any x[i] w)
      have HP := Lib.hid (fun w => (show Calls Try.prog 29 #[.string (x.extract i x.size), .bool false, .int .i64 0, .int .i64 ((b : Int) + (i : Int))] w (endPost w (b + i) (partE l 25 false (b + i))) from
        rpart_any 25 w l (x.extract i x.size) (b + i) false 0 (by rw [extract_drop, st_data, drop_base HX.out]) (by simp; omega) rfl))
      clear hgd
      cases hst : stopB x[i] with
      | true =>
        rw [hst] at hr HS
        rw [if_pos rfl] at hr
        subst hr
        clear hst HP
        go_wp2_with (go_at_call 28; (with_reducible refine (HS.out _).mono ?_); rintro e w' ⟨rfl, rfl⟩)
        refine bodyPost_ret (resEnds Try.f18 4 rfl (HE.out.all i false false 0) _ rfl) rfl ⟨?_, HF.out.four (Nat.le_refl _) _ _ _ _⟩
        rw [show enN b (.ok (b + i)) = i from Nat.add_sub_cancel_left _ _]; rfl
      | false =>
        rw [hst] at hr HS
        rw [if_neg (by decide)] at hr
        clear hst
        cases hk : kd false (l.drop (b + i)) with
        | none =>
          rw [hk] at hr
          dsimp only at hr
          have HV := Lib.hid hr
          have hpe : partE l 25 false (b + i) = .ok (b + i) := by unfold partE; rw [hk]
          rw [hpe] at HP
          have HP := Lib.hid (fun w => (show Calls Try.prog 29 #[.string (x.extract i x.size), .bool false, .int .i64 0, .int .i64 ((b : Int) + (i : Int))] w (fun e w' => e = .returned (.agg #[.int .i64 (0 : Nat), .bool false, .bool false, .int .i64 (0 : Nat)]) ∧ Fr (fun _ => False) w w') from by
            refine (HP.out w).mono ?_
            rintro e w' ⟨rfl, h⟩
            exact ⟨by rw [show enN (b + i) (.ok (b + i)) = 0 from Nat.sub_self _] <;> rfl, h⟩))
          clear hr hk hpe
          go_upto_region 6 with (first | (go_at_call 28; (with_reducible refine (HS.out _).mono ?_); rintro e w' ⟨rfl, rfl⟩) | (go_at_call 29; (with_reducible refine (HP.out _).mono ?_); rintro e w2 ⟨rfl, hF⟩; have HFF := Lib.hid hF; clear hF))
          have HE2 := Lib.hid ((HE.out.fr HFF.out id).fr ((Fr.refl (fun _ => False) w2).alloc (.cells #[.int .i64 0, .bool false, .bool false, .int .i64 0] 51)) id)
          have HT2 := Lib.hid (show EKP (w2.alloc (.cells #[.int .i64 0, .bool false, .bool false, .int .i64 0] 51)) w2.heap.size 0 false false 0 from heap_alloc_new w2 _)
          have HF2 := Lib.hid ((HF.out.trans HFF.out).alloc (.cells #[.int .i64 0, .bool false, .bool false, .int .i64 0] 51))
          have HSZ := Lib.hid (show W.heap.size < w2.heap.size from Nat.lt_of_lt_of_le (heap_lt HE.out) HFF.out.size)
          clear HFF
          generalize w2.alloc (.cells #[.int .i64 0, .bool false, .bool false, .int .i64 0] 51) = w3 at *
          generalize w2.heap.size = T at *
          obtain ⟨t0, t1, t2, t3, tf0, tf1, tf2, tf3⟩ := HT2.out.cells
          obtain ⟨g0, g1, g2, g3, gf0, gf1, gf2, gf3⟩ := HE2.out.cells
          go_wp2
          go_roundw
          case rel => exact ⟨i + 1, m, rfl, HE2.out.fr (Fr.one _ T 0 _) (fun e => by have := HSZ.out; omega), HF2.out.setCell (p := ⟨T, 0, none⟩) (.inr (Nat.le_of_lt HSZ.out)) _, by omega, hm, HV.out⟩
          case measure => simp [intOf]; omega
        | some k =>
          rw [hk] at hr
          dsimp only at hr
          cases hp : partL l 25 false k (b + i) with
          | ok j =>
            rw [hp] at hr
            dsimp only at hr
            have hle := partL_le _ _ _ _ _ _ hp
            obtain ⟨t, ht⟩ : ∃ t, j = b + i + t := ⟨j - (b + i), by omega⟩
            subst ht
            have HV := Lib.hid (show wordL l m (b + (i + t)) = r from by rw [← Nat.add_assoc]; exact hr)
            have hpe : partE l 25 false (b + i) = .ok (b + i + t) := by unfold partE; rw [hk]; exact hp
            rw [hpe] at HP
            have HP := Lib.hid (fun w => (show Calls Try.prog 29 #[.string (x.extract i x.size), .bool false, .int .i64 0, .int .i64 ((b : Int) + (i : Int))] w (fun e w' => e = .returned (.agg #[.int .i64 (t : Nat), .bool false, .bool false, .int .i64 (0 : Nat)]) ∧ Fr (fun _ => False) w w') from by
              refine (HP.out w).mono ?_
              rintro e w' ⟨rfl, h⟩
              exact ⟨by rw [show enN (b + i) (.ok (b + i + t)) = t from Nat.add_sub_cancel_left _ _] <;> rfl, h⟩))
            have gt : ((((t : Nat) : Int) == 0) : Bool) = false := by rw [beq_eq_false_iff_ne]; omega
            clear hr hk hpe hp
            go_upto_region 6 with (first | (go_at_call 28; (with_reducible refine (HS.out _).mono ?_); rintro e w' ⟨rfl, rfl⟩) | (go_at_call 29; (with_reducible refine (HP.out _).mono ?_); rintro e w2 ⟨rfl, hF⟩; have HFF := Lib.hid hF; clear hF))
            have HE2 := Lib.hid ((HE.out.fr HFF.out id).fr ((Fr.refl (fun _ => False) w2).alloc (.cells #[.int .i64 (t : Nat), .bool false, .bool false, .int .i64 0] 51)) id)
            have HT2 := Lib.hid (show EKP (w2.alloc (.cells #[.int .i64 (t : Nat), .bool false, .bool false, .int .i64 0] 51)) w2.heap.size t false false 0 from heap_alloc_new w2 _)
            have HF2 := Lib.hid ((HF.out.trans HFF.out).alloc (.cells #[.int .i64 (t : Nat), .bool false, .bool false, .int .i64 0] 51))
            have HSZ := Lib.hid (show W.heap.size < w2.heap.size from Nat.lt_of_lt_of_le (heap_lt HE.out) HFF.out.size)
            clear HFF
            generalize w2.alloc (.cells #[.int .i64 (t : Nat), .bool false, .bool false, .int .i64 0] 51) = w3 at *
            generalize w2.heap.size = T at *
            obtain ⟨t0, t1, t2, t3, tf0, tf1, tf2, tf3⟩ := HT2.out.cells
            obtain ⟨g0, g1, g2, g3, gf0, gf1, gf2, gf3⟩ := HE2.out.cells
            go_wp2
            go_roundw
            case rel => exact ⟨i + t, m, by go_num, HE2.out, HF2.out, by omega, by omega, HV.out⟩
            case measure => simp [intOf]; omega
          | more =>
            rw [hp] at hr
            dsimp only at hr
            subst hr
            have hpe : partE l 25 false (b + i) = .more := by unfold partE; rw [hk]; exact hp
            rw [hpe] at HP
            have HP := Lib.hid (fun w => (show Calls Try.prog 29 #[.string (x.extract i x.size), .bool false, .int .i64 0, .int .i64 ((b : Int) + (i : Int))] w (fun e w' => e = .returned (.agg #[.int .i64 (0 : Nat), .bool true, .bool false, .int .i64 (0 : Nat)]) ∧ Fr (fun _ => False) w w') from by
              refine (HP.out w).mono ?_
              rintro e w' ⟨rfl, h⟩
              exact ⟨rfl, h⟩))
            clear hk hpe hp
            go_upto_region 6 with (first | (go_at_call 28; (with_reducible refine (HS.out _).mono ?_); rintro e w' ⟨rfl, rfl⟩) | (go_at_call 29; (with_reducible refine (HP.out _).mono ?_); rintro e w2 ⟨rfl, hF⟩; have HFF := Lib.hid hF; clear hF))
            have HE2 := Lib.hid ((HE.out.fr HFF.out id).fr ((Fr.refl (fun _ => False) w2).alloc (.cells #[.int .i64 0, .bool true, .bool false, .int .i64 0] 51)) id)
            have HT2 := Lib.hid (show EKP (w2.alloc (.cells #[.int .i64 0, .bool true, .bool false, .int .i64 0] 51)) w2.heap.size 0 true false 0 from heap_alloc_new w2 _)
            have HF2 := Lib.hid ((HF.out.trans HFF.out).alloc (.cells #[.int .i64 0, .bool true, .bool false, .int .i64 0] 51))
            have HSZ := Lib.hid (show W.heap.size < w2.heap.size from Nat.lt_of_lt_of_le (heap_lt HE.out) HFF.out.size)
            clear HFF
            generalize w2.alloc (.cells #[.int .i64 0, .bool true, .bool false, .int .i64 0] 51) = w3 at *
            generalize w2.heap.size = T at *
            obtain ⟨t0, t1, t2, t3, tf0, tf1, tf2, tf3⟩ := HT2.out.cells
            obtain ⟨g0, g1, g2, g3, gf0, gf1, gf2, gf3⟩ := HE2.out.cells
            go_wp2
            exact bodyPost_ret (resEnds Try.f18 4 rfl (HE2.out.all 0 true false 0) _ rfl) rfl ⟨rfl, HF2.out.four (Nat.le_refl _) _ _ _ _⟩
          | deep z =>
            rw [hp] at hr
            dsimp only at hr
            subst hr
            have hpe : partE l 25 false (b + i) = .deep z := by unfold partE; rw [hk]; exact hp
            rw [hpe] at HP
            have HP := Lib.hid (fun w => (show Calls Try.prog 29 #[.string (x.extract i x.size), .bool false, .int .i64 0, .int .i64 ((b : Int) + (i : Int))] w (fun e w' => e = .returned (.agg #[.int .i64 (0 : Nat), .bool false, .bool true, .int .i64 (z : Nat)]) ∧ Fr (fun _ => False) w w') from by
              refine (HP.out w).mono ?_
              rintro e w' ⟨rfl, h⟩
              exact ⟨rfl, h⟩))
            clear hk hpe hp
            go_upto_region 6 with (first | (go_at_call 28; (with_reducible refine (HS.out _).mono ?_); rintro e w' ⟨rfl, rfl⟩) | (go_at_call 29; (with_reducible refine (HP.out _).mono ?_); rintro e w2 ⟨rfl, hF⟩; have HFF := Lib.hid hF; clear hF))
            have HE2 := Lib.hid ((HE.out.fr HFF.out id).fr ((Fr.refl (fun _ => False) w2).alloc (.cells #[.int .i64 0, .bool false, .bool true, .int .i64 (z : Nat)] 51)) id)
            have HT2 := Lib.hid (show EKP (w2.alloc (.cells #[.int .i64 0, .bool false, .bool true, .int .i64 (z : Nat)] 51)) w2.heap.size 0 false true z from heap_alloc_new w2 _)
            have HF2 := Lib.hid ((HF.out.trans HFF.out).alloc (.cells #[.int .i64 0, .bool false, .bool true, .int .i64 (z : Nat)] 51))
            have HSZ := Lib.hid (show W.heap.size < w2.heap.size from Nat.lt_of_lt_of_le (heap_lt HE.out) HFF.out.size)
            clear HFF
            generalize w2.alloc (.cells #[.int .i64 0, .bool false, .bool true, .int .i64 (z : Nat)] 51) = w3 at *
            generalize w2.heap.size = T at *
            obtain ⟨t0, t1, t2, t3, tf0, tf1, tf2, tf3⟩ := HT2.out.cells
            obtain ⟨g0, g1, g2, g3, gf0, gf1, gf2, gf3⟩ := HE2.out.cells
            go_wp2
            exact bodyPost_ret (resEnds Try.f18 4 rfl (HE2.out.all 0 false true z) _ rfl) rfl ⟨rfl, HF2.out.four (Nat.le_refl _) _ _ _ _⟩
    · obtain rfl : i = x.size := by omega
      rw [word_end _ _ _ (by have := HBL.out; omega)] at hr
      subst hr
      go_wp2
      refine bodyPost_ret (resEnds Try.f18 4 rfl (HE.out.all x.size false false 0) _ rfl) rfl ⟨?_, HF.out.four (Nat.le_refl _) _ _ _ _⟩
      rw [show enN b (.ok (b + x.size)) = x.size from Nat.add_sub_cancel_left _ _]; rfl
end Go.Proofs.Ytoahgblgchmclaa
