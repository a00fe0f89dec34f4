/- The document's answer: part. -/
import Derived.Test.YtmkcenobghaoiaaLO0
namespace Go.Proofs.Ytmkcenobghaoiaa
open Go.RowKit
set_option linter.unusedVariables false
set_option linter.unusedSimpArgs false
set_option maxRecDepth 100000 in
set_option maxHeartbeats 16000000 in
theorem succ_ar (d : Nat) (W : World) (l : Bs) (x : ByteArray) (b : Nat) (q : Bool) (deep : Nat) (hx : x.data.toList = l.drop b) (hb : b + x.size ≤ 4611686018427387904) (hdeep : deep + (d + 1) = 25) (hk : kd q (l.drop b) = some .ar) :
    Calls Try.prog 22 #[.string x, .bool q, .int .i64 deep, .int .i64 b] W (endPost W b (lift (b + 3) (ari 0 (l.drop (b + 3))))) := by
  have h0 := nonempty_of hx hk
  have hne := ne_list h0
  have hxm : x.size ≤ maxLen := by unfold maxLen; omega
  have HBL := Lib.hid (base_len hx)
  rw [← hx, kd_pre] at hk
  have hc : x[0] = 36 := pre_head' h0 (pick_ar _ _ _ _ _ _ _ _ hk)
  have g92 : (((x[0].toNat : Int) == 92) : Bool) = false := u8_false x[0] 92 (by rw [hc]; decide)
  have g96 : (((x[0].toNat : Int) == 96) : Bool) = false := u8_false x[0] 96 (by rw [hc]; decide)
  have g39 : (((x[0].toNat : Int) == 39) : Bool) = false := u8_false x[0] 39 (by rw [hc]; decide)
  have g34 : (((x[0].toNat : Int) == 34) : Bool) = false := u8_false x[0] 34 (by rw [hc]; decide)
  have h40 := pick_ar _ _ _ _ _ _ _ _ hk
  have B1 := Lib.hid (fun w => (show Calls Try.prog 14 #[.string x, .string ⟨#[36, 40]⟩] w fun e w' => e = .returned (.bool true) ∧ w' = w from beg_call x [36, 40] true (pre_sub h40) hxm (by decide) w))
  have B3 := Lib.hid (fun w => (show Calls Try.prog 14 #[.string x, .string ⟨#[36, 40, 40]⟩] w fun e w' => e = .returned (.bool true) ∧ w' = w from beg_call x [36, 40, 40] true h40 hxm (by decide) w))
  have hl3 : 3 ≤ x.size := by have := pre_len h40; rw [size_len] at this; exact this
  clear h40
  have HX := Lib.hid hx
  have HXM := Lib.hid hxm
  unfold maxLen at hxm
  have HE := Lib.hid (show EKP (W.alloc (.cells #[.int .i64 0, .bool false, .bool false, .int .i64 0] 40)) W.heap.size 0 false false 0 from heap_alloc_new W _)
  have HF := Lib.hid ((Fr.refl (fun _ => False) W).alloc (.cells #[.int .i64 0, .bool false, .bool false, .int .i64 0] 40))
  clear hk hx hc
  have hd24 : deep ≤ 24 := by omega
  cases q
  all_goals
    obtain ⟨r, hr⟩ : ∃ r, lift (b + 3) (ari 0 (l.drop (b + 3))) = r := ⟨_, rfl⟩
    rw [hr]
    rw [drop_base HX.out 3] at hr
    have HR0 := Lib.hid hr
    clear hr
    go_enter Try.func22, Try.ntmps22
    go_wp2_with (first | (go_at_call 14; (with_reducible refine (B1.out _).mono ?_); rintro e w' ⟨rfl, rfl⟩) | (go_at_call 14; (with_reducible refine (B3.out _).mono ?_); rintro e w' ⟨rfl, rfl⟩))
    go_loopw [13, 14] (fun ov iv wr => arpRel W x b r ov iv wr) (fun _ iv _ => x.size - (intOf iv).toNat)
    case atStart => exact ⟨0, 3, rfl, rfl, HE.out, HF.out, hl3, by omega, HR0.out⟩
    case round =>
      obtain ⟨o, i, rfl, rfl, hE, hF, hi, ho, hr⟩ := hrel
      clear HE HF HR0
      have HE := Lib.hid hE
      have HF := Lib.hid hF
      obtain ⟨e0, e1, e2, e3, ef0, ef1, ef2, ef3⟩ := hE.cells
      clear hE hF
      by_cases his : i < x.size
      · rw [at_byte his, ari_cons] at hr
        by_cases h40 : x[i] = 40
        · have g := (show (((x[i].toNat : Int) == 40) : Bool) = true from u8_true x[i] 40 h40)
          rw [if_pos h40, lift_succ] at hr
          have HV := Lib.hid hr
          clear hr h40
          go_wp2
          go_roundw
          case rel => exact ⟨o + 1, i + 1, by go_num, by go_num, HE.out, HF.out, his, by omega, HV.out⟩
          case measure => simp [intOf]; omega
        · have g := (show (((x[i].toNat : Int) == 40) : Bool) = false from u8_false x[i] 40 h40)
          rw [if_neg h40] at hr
          by_cases h41 : x[i] = 41
          · have g2 := (show (((x[i].toNat : Int) == 41) : Bool) = true from u8_true x[i] 41 h41)
            by_cases ho0 : 0 < o
            · rw [if_pos ⟨h41, ho0⟩, lift_succ] at hr
              have HV := Lib.hid hr
              clear hr h40 h41
              go_wp2
              go_roundw
              case rel => exact ⟨o - 1, i + 1, by congr 1; omega, by go_num, HE.out, HF.out, his, by omega, HV.out⟩
              case measure => simp [intOf]; omega
            · rw [if_neg (fun h => ho0 h.2)] at hr
              obtain rfl : o = 0 := by omega
              have B4 := Lib.hid (fun v hv w => (show Calls Try.prog 14 #[.string (x.extract i x.size), .string ⟨#[41, 41]⟩] w fun e w' => e = .returned (.bool v) ∧ w' = w from beg_call (x.extract i x.size) [41, 41] v hv (Nat.le_trans (by simp) HXM.out) (by decide) w))
              have hpre : pre [41, 41] (x.extract i x.size).data.toList = decide (x[i] = 41 ∧ (x.data.toList.drop (i + 1)).head? = some 41) := by
                rw [extract_drop, st_data, at_byte his, pre_two]
              by_cases h2 : (x.data.toList.drop (i + 1)).head? = some 41
              · have hi2 : i + 1 < x.size := by
                  refine Nat.lt_of_not_le fun hn => ?_
                  rw [List.drop_eq_nil_of_le (by rw [size_len]; omega)] at h2
                  simp at h2
                rw [if_pos ⟨h41, h2⟩] at hr
                have B4 := Lib.hid (B4.out true (by rw [hpre]; exact decide_eq_true ⟨h41, h2⟩))
                have HV := Lib.hid hr
                clear hr h40 h41 h2 hpre
                go_wp2_with (go_at_call 14; (with_reducible refine (B4.out _).mono ?_); rintro e w' ⟨rfl, rfl⟩)
                refine bodyPost_ret (resEnds Try.f22 8 rfl (HE.out.all (i + 2) false false 0) _ rfl) rfl ⟨?_, HF.out.four (Nat.le_refl _) _ _ _ _⟩
                rw [← HV.out, show lift (b + i) (some 2) = .ok (b + i + 2) from rfl, show enN b (.ok (b + i + 2)) = i + 2 from by show b + i + 2 - b = i + 2; omega]; rfl
              · rw [if_neg (fun h => h2 h.2), lift_succ] at hr
                have B4 := Lib.hid (B4.out false (by rw [hpre]; exact decide_eq_false (fun h => h2 h.2)))
                have HV := Lib.hid hr
                clear hr h40 h41 h2 hpre
                go_wp2_with (go_at_call 14; (with_reducible refine (B4.out _).mono ?_); rintro e w' ⟨rfl, rfl⟩)
                go_roundw
                case rel => exact ⟨0, i + 1, rfl, by go_num, HE.out, HF.out, his, by omega, HV.out⟩
                case measure => simp [intOf]; omega
          · have g2 := (show (((x[i].toNat : Int) == 41) : Bool) = false from u8_false x[i] 41 h41)
            rw [if_neg (fun h => h41 h.1), if_neg (fun h => h41 h.1), lift_succ] at hr
            have HV := Lib.hid hr
            clear hr h40 h41
            go_wp2
            go_roundw
            case rel => exact ⟨o, i + 1, rfl, by go_num, HE.out, HF.out, his, by omega, HV.out⟩
            case measure => simp [intOf]; omega
      · rw [List.drop_eq_nil_of_le (by rw [size_len]; omega), ari_nil] at hr
        subst hr
        go_wp2
        exact bodyPost_ret (resEnds Try.f22 8 rfl (HE.out.all 0 true false 0) _ rfl) rfl ⟨rfl, HF.out.four (Nat.le_refl _) _ _ _ _⟩
end Go.Proofs.Ytmkcenobghaoiaa
