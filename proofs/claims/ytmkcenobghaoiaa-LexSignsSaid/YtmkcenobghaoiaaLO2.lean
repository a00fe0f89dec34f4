/- The document's answer: part. -/
import Derived.Test.YtmkcenobghaoiaaLO0
namespace Go.Proofs.Ytmkcenobghaoiaa
open Go.RowKit
set_option linter.unusedVariables false
set_option linter.unusedSimpArgs false
set_option maxRecDepth 100000 in
set_option maxHeartbeats 16000000 in
theorem succ_esc (d : Nat) (W : World) (l : Bs) (x : ByteArray) (b : Nat) (q : Bool) (deep : Nat) (hx : x.data.toList = l.drop b) (hb : b + x.size ≤ 4611686018427387904) (hdeep : deep + (d + 1) = 25) (hk : kd q (l.drop b) = some .esc) :
    Calls Try.prog 22 #[.string x, .bool q, .int .i64 deep, .int .i64 b] W (endPost W b (if b + 1 < l.length then .ok (b + 2) else .more)) := by
  have h0 := nonempty_of hx hk
  have hne := ne_list h0
  have hxm : x.size ≤ maxLen := by unfold maxLen; omega
  have HBL := Lib.hid (base_len hx)
  rw [← hx, kd_pre] at hk
  have hc : x[0] = 92 := pre_head' h0 (pick_esc _ _ _ _ _ _ _ _ hk)
  have g92 : (((x[0].toNat : Int) == 92) : Bool) = true := u8_true x[0] 92 hc
  have g96 : (((x[0].toNat : Int) == 96) : Bool) = false := u8_false x[0] 96 (by rw [hc]; decide)
  have g39 : (((x[0].toNat : Int) == 39) : Bool) = false := u8_false x[0] 39 (by rw [hc]; decide)
  have g34 : (((x[0].toNat : Int) == 34) : Bool) = false := u8_false x[0] 34 (by rw [hc]; decide)
  have HX := Lib.hid hx
  have HXM := Lib.hid hxm
  unfold maxLen at hxm
  have HE := Lib.hid (show EKP (W.alloc (.cells #[.int .i64 0, .bool false, .bool false, .int .i64 0] 40)) W.heap.size 0 false false 0 from heap_alloc_new W _)
  have HF := Lib.hid ((Fr.refl (fun _ => False) W).alloc (.cells #[.int .i64 0, .bool false, .bool false, .int .i64 0] 40))
  clear hk hx hc
  have hd24 : deep ≤ 24 := by omega
  by_cases h1 : b + 1 < l.length
  · rw [if_pos h1]
    have hx2 : 2 ≤ x.size := by have := HBL.out; omega
    cases q
    all_goals
      go_enter Try.func22, Try.ntmps22
      go_wp2
      refine bodyPost_ret (resEnds Try.f22 8 rfl (show EKP (W.alloc (.cells #[.int .i64 2, .bool false, .bool false, .int .i64 0] 40)) W.heap.size 2 false false 0 from heap_alloc_new W _) _ rfl) rfl ⟨?_, (Fr.refl _ W).alloc _⟩
      rw [show enN b (.ok (b + 2)) = 2 from Nat.add_sub_cancel_left _ _]; rfl
  · rw [if_neg h1]
    have hx2 : x.size < 2 := by have := HBL.out; omega
    cases q
    all_goals
      go_enter Try.func22, Try.ntmps22
      go_wp2
      exact bodyPost_ret (resEnds Try.f22 8 rfl (show EKP (W.alloc (.cells #[.int .i64 0, .bool true, .bool false, .int .i64 0] 40)) W.heap.size 0 true false 0 from heap_alloc_new W _) _ rfl) rfl ⟨rfl, (Fr.refl _ W).alloc _⟩
set_option maxRecDepth 100000 in
set_option maxHeartbeats 16000000 in
theorem succ_sq (d : Nat) (W : World) (l : Bs) (x : ByteArray) (b : Nat) (q : Bool) (deep : Nat) (hx : x.data.toList = l.drop b) (hb : b + x.size ≤ 4611686018427387904) (hdeep : deep + (d + 1) = 25) (hk : kd q (l.drop b) = some .sq) :
    Calls Try.prog 22 #[.string x, .bool q, .int .i64 deep, .int .i64 b] W (endPost W b (lift (b + 1) (toQ 39 (l.drop (b + 1))))) := by
  have h0 := nonempty_of hx hk
  have hne := ne_list h0
  have hxm : x.size ≤ maxLen := by unfold maxLen; omega
  have HBL := Lib.hid (base_len hx)
  rw [← hx, kd_pre] at hk
  have hc : x[0] = 39 := pre_head' h0 (pick_sq _ _ _ _ _ _ _ _ hk).1
  have g92 : (((x[0].toNat : Int) == 92) : Bool) = false := u8_false x[0] 92 (by rw [hc]; decide)
  have g96 : (((x[0].toNat : Int) == 96) : Bool) = false := u8_false x[0] 96 (by rw [hc]; decide)
  have g39 : (((x[0].toNat : Int) == 39) : Bool) = true := u8_true x[0] 39 hc
  have g34 : (((x[0].toNat : Int) == 34) : Bool) = false := u8_false x[0] 34 (by rw [hc]; decide)
  have hq : q = false := (pick_sq _ _ _ _ _ _ _ _ hk).2
  subst hq
  have HX := Lib.hid hx
  have HXM := Lib.hid hxm
  unfold maxLen at hxm
  have HE := Lib.hid (show EKP (W.alloc (.cells #[.int .i64 0, .bool false, .bool false, .int .i64 0] 40)) W.heap.size 0 false false 0 from heap_alloc_new W _)
  have HF := Lib.hid ((Fr.refl (fun _ => False) W).alloc (.cells #[.int .i64 0, .bool false, .bool false, .int .i64 0] 40))
  clear hk hx hc
  have hd24 : deep ≤ 24 := by omega
  obtain ⟨r, hr⟩ : ∃ r, lift (b + 1) (toQ 39 (l.drop (b + 1))) = r := ⟨_, rfl⟩
  rw [hr]
  rw [drop_base HX.out 1] at hr
  have HR0 := Lib.hid hr
  clear hr
  go_enter Try.func22, Try.ntmps22
  go_wp2
  go_loopw [11] (fun iv wr => lpRel W x b (toQ 39) r iv wr) (fun iv _ => x.size + 1 - (intOf iv).toNat)
  case atStart => exact ⟨1, rfl, HE.out, HF.out, by omega, HR0.out⟩
  case round =>
    obtain ⟨i, rfl, hE, hF, hi, hr⟩ := hrel
    clear HE HF HR0
    have HE := Lib.hid hE
    have HF := Lib.hid hF
    obtain ⟨e0, e1, e2, e3, ef0, ef1, ef2, ef3⟩ := hE.cells
    clear hE hF
    by_cases his : i < x.size
    · rw [at_byte his, toQ] at hr
      by_cases hc : x[i] = 39
      · have g := (show (((x[i].toNat : Int) == 39) : Bool) = true from u8_true x[i] 39 hc)
        rw [if_pos hc] at hr
        have HV := Lib.hid hr
        clear hr hc
        go_wp2
        refine bodyPost_ret (resEnds Try.f22 8 rfl (HE.out.all (i + 1) false false 0) _ rfl) rfl ⟨?_, HF.out.four (Nat.le_refl _) _ _ _ _⟩
        rw [← HV.out, show lift (b + i) (some 1) = .ok (b + i + 1) from rfl, show enN b (.ok (b + i + 1)) = i + 1 from by show b + i + 1 - b = i + 1; omega]; rfl
      · have g := (show (((x[i].toNat : Int) == 39) : Bool) = false from u8_false x[i] 39 hc)
        rw [if_neg hc, lift_succ] at hr
        have HV := Lib.hid hr
        clear hr hc
        go_wp2
        go_roundw
        case rel => exact ⟨i + 1, by go_num, HE.out, HF.out, by omega, HV.out⟩
        case measure => simp [intOf]; omega
    · rw [List.drop_eq_nil_of_le (by rw [size_len]; omega), toQ] at hr
      subst hr
      go_wp2
      exact bodyPost_ret (resEnds Try.f22 8 rfl (HE.out.all 0 true false 0) _ rfl) rfl ⟨rfl, HF.out.four (Nat.le_refl _) _ _ _ _⟩
set_option maxRecDepth 100000 in
set_option maxHeartbeats 16000000 in
theorem succ_gr (d : Nat) (W : World) (l : Bs) (x : ByteArray) (b : Nat) (q : Bool) (deep : Nat) (hx : x.data.toList = l.drop b) (hb : b + x.size ≤ 4611686018427387904) (hdeep : deep + (d + 1) = 25) (hk : kd q (l.drop b) = some .gr) :
    Calls Try.prog 22 #[.string x, .bool q, .int .i64 deep, .int .i64 b] W (endPost W b (lift (b + 1) (grv (l.drop (b + 1))))) := by
  have h0 := nonempty_of hx hk
  have hne := ne_list h0
  have hxm : x.size ≤ maxLen := by unfold maxLen; omega
  have HBL := Lib.hid (base_len hx)
  rw [← hx, kd_pre] at hk
  have hc : x[0] = 96 := pre_head' h0 (pick_gr _ _ _ _ _ _ _ _ hk)
  have g92 : (((x[0].toNat : Int) == 92) : Bool) = false := u8_false x[0] 92 (by rw [hc]; decide)
  have g96 : (((x[0].toNat : Int) == 96) : Bool) = true := u8_true x[0] 96 hc
  have g39 : (((x[0].toNat : Int) == 39) : Bool) = false := u8_false x[0] 39 (by rw [hc]; decide)
  have g34 : (((x[0].toNat : Int) == 34) : Bool) = false := u8_false x[0] 34 (by rw [hc]; decide)
  have HX := Lib.hid hx
  have HXM := Lib.hid hxm
  unfold maxLen at hxm
  have HE := Lib.hid (show EKP (W.alloc (.cells #[.int .i64 0, .bool false, .bool false, .int .i64 0] 40)) W.heap.size 0 false false 0 from heap_alloc_new W _)
  have HF := Lib.hid ((Fr.refl (fun _ => False) W).alloc (.cells #[.int .i64 0, .bool false, .bool false, .int .i64 0] 40))
  clear hk hx hc
  have hd24 : deep ≤ 24 := by omega
  obtain ⟨r, hr⟩ : ∃ r, lift (b + 1) (grv (l.drop (b + 1))) = r := ⟨_, rfl⟩
  rw [hr]
  rw [drop_base HX.out 1] at hr
  have HR0 := Lib.hid hr
  clear hr
  go_enter Try.func22, Try.ntmps22
  go_wp2
  go_loopw [12] (fun iv wr => lpRel W x b grv r iv wr) (fun iv _ => x.size + 1 - (intOf iv).toNat)
  case atStart => exact ⟨1, rfl, HE.out, HF.out, by omega, HR0.out⟩
  case round =>
    obtain ⟨i, rfl, hE, hF, hi, hr⟩ := hrel
    clear HE HF HR0
    have HE := Lib.hid hE
    have HF := Lib.hid hF
    obtain ⟨e0, e1, e2, e3, ef0, ef1, ef2, ef3⟩ := hE.cells
    clear hE hF
    by_cases his : i < x.size
    · rw [at_byte his] at hr
      by_cases hc : x[i] = 92
      · have g := (show (((x[i].toNat : Int) == 92) : Bool) = true from u8_true x[i] 92 hc)
        have hr2 : lift (b + (i + 2)) (grv (x.data.toList.drop (i + 2))) = r := by
          by_cases h2 : i + 1 < x.size
          · rw [at_byte h2, hc, grv_two, if_neg (by decide), if_pos rfl, lift_succ2] at hr
            exact hr
          · rw [List.drop_eq_nil_of_le (by rw [size_len]; omega), hc, grv_one, if_neg (by decide)] at hr
            rw [List.drop_eq_nil_of_le (by rw [size_len]; omega), grv_nil, ← hr]; rfl
        have HV := Lib.hid hr2
        clear hr hr2 hc
        go_wp2
        go_roundw
        case rel => exact ⟨i + 2, by go_num, HE.out, HF.out, by omega, HV.out⟩
        case measure => simp [intOf]; omega
      · have g := (show (((x[i].toNat : Int) == 92) : Bool) = false from u8_false x[i] 92 hc)
        rw [grv_cons _ _ hc] at hr
        by_cases h96 : x[i] = 96
        · have g2 := (show (((x[i].toNat : Int) == 96) : Bool) = true from u8_true x[i] 96 h96)
          rw [if_pos h96] at hr
          have HV := Lib.hid hr
          clear hr hc h96
          go_wp2
          refine bodyPost_ret (resEnds Try.f22 8 rfl (HE.out.all (i + 1) false false 0) _ rfl) rfl ⟨?_, HF.out.four (Nat.le_refl _) _ _ _ _⟩
          rw [← HV.out, show lift (b + i) (some 1) = .ok (b + i + 1) from rfl, show enN b (.ok (b + i + 1)) = i + 1 from by show b + i + 1 - b = i + 1; omega]; rfl
        · have g2 := (show (((x[i].toNat : Int) == 96) : Bool) = false from u8_false x[i] 96 h96)
          rw [if_neg h96, lift_succ] at hr
          have HV := Lib.hid hr
          clear hr hc h96
          go_wp2
          go_roundw
          case rel => exact ⟨i + 1, by go_num, HE.out, HF.out, by omega, HV.out⟩
          case measure => simp [intOf]; omega
    · rw [List.drop_eq_nil_of_le (by rw [size_len]; omega), grv_nil] at hr
      subst hr
      go_wp2
      exact bodyPost_ret (resEnds Try.f22 8 rfl (HE.out.all 0 true false 0) _ rfl) rfl ⟨rfl, HF.out.four (Nat.le_refl _) _ _ _ _⟩
end Go.Proofs.Ytmkcenobghaoiaa
