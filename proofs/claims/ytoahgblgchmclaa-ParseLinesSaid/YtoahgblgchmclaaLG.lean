/- Contracts: nesting and part, by induction on how many more parts may stand around one. -/
import Derived.Test.YtoahgblgchmclaaLF
namespace Go.Proofs.Ytoahgblgchmclaa
open Go.RowKit
set_option linter.unusedVariables false
set_option linter.unusedSimpArgs false
def PartC (d : Nat) : Prop := ∀ (W : World) (p : Nat) (s : ByteArray) (k : Nat) (q : Bool) (x : Kd) (within : Nat), s.size ≤ maxLen → within + d = 25 → k + (kb (some x)).length ≤ s.size → RM W p s k →
  Calls Try.prog 48 #[.pointer (some ⟨p, 0, none⟩), .string (st (kb (some x))), .int .i64 within, .bool q] W (partPost W p s (partL s.data.toList d q x k))
theorem kd_len (q : Bool) (l : Bs) (x : Kd) (h : kd q l = some x) : (kb (some x)).length ≤ l.length := by
  cases l with
  | nil => cases h
  | cons c r =>
    rw [kd] at h
    split at h
    · cases h; simp [kb]
    split at h
    · cases h; simp [kb]
    split at h
    · cases h; simp [kb]
    split at h
    · rename_i h1
      cases h
      cases r with
      | nil => simp at h1
      | cons d r =>
        cases r with
        | nil => simp at h1
        | cons e r => simp [kb]
    split at h
    · rename_i h1
      cases h
      cases r with
      | nil => simp at h1
      | cons d r => simp [kb]
    split at h
    · rename_i h1
      cases h
      cases r with
      | nil => simp at h1
      | cons d r => simp [kb]
    split at h
    · cases h; simp [kb]
    · cases h
theorem kb_ne (x : Kd) : (((st (kb (some x))).toList == []) : Bool) = false ∧ (((st (kb (some x))).toList != []) : Bool) = true := by
  rw [st_toList]
  cases x <;> exact ⟨rfl, rfl⟩
def nsRel (W : World) (p : Nat) (s : ByteArray) (P : Bool → Kd → Nat → R) (c : UInt8) (q : Bool) (r : R) (ov : Value) (wr : World) : Prop :=
  ∃ (o j n : Nat), ov = .int .i64 o ∧ RM wr p s j ∧ Fr (· = p) W wr ∧ j ≤ s.size ∧ o ≤ j ∧ s.size - j ≤ n ∧ nestL P c q s.data.toList n j o = r
theorem nest_end (P : Bool → Kd → Nat → R) (c : UInt8) (q : Bool) (l : Bs) (n j o : Nat) (h : l.length ≤ j) : nestL P c q l n j o = .more := by
  cases n with
  | zero => rw [nestL]
  | succ n => rw [nestL, if_pos h]
theorem getD_at {s : ByteArray} {j : Nat} (h : j < s.size) : s.data.toList.getD j 0 = s[j] := by
  rw [List.getD_eq_getElem?_getD, List.getElem?_eq_getElem (by rw [size_len]; exact h)]; rfl
set_option maxHeartbeats 8000000 in
theorem nesting_any (d : Nat) (HD : PartC d) (W : World) (p : Nat) (s : ByteArray) (k : Nat) (c : UInt8) (q : Bool) (within : Nat) (n : Nat) (hk : k ≤ s.size) (hn : s.size - k ≤ n) (hs : s.size ≤ maxLen) (hw : within + d = 25) (h : RM W p s k) :
    Calls Try.prog 56 #[.pointer (some ⟨p, 0, none⟩), .int .u8 c.toNat, .int .i64 within, .bool q] W (partPost W p s (nestL (partL s.data.toList d) c q s.data.toList n k 0)) := by
  have hs' := hs
  unfold maxLen at hs'
  have HD := Lib.hid HD
  have H := Lib.hid h
  clear h
  obtain ⟨r, hr⟩ : ∃ r, nestL (partL s.data.toList d) c q s.data.toList n k 0 = r := ⟨_, rfl⟩
  rw [hr]
  have HR0 := Lib.hid hr
  have HN0 := Lib.hid hn
  clear hr hn
  go_enter Try.func56, Try.ntmps56
  go_wp2
  go_loopw [9, 10, 11, 12] (fun ov _ _ _ wr => nsRel W p s (partL s.data.toList d) c q r ov wr) (fun _ _ _ _ wr => s.size - atOf wr p)
  case atStart => exact ⟨0, k, n, rfl, H.out, Fr.refl _ _, hk, Nat.zero_le _, HN0.out, HR0.out⟩
  case round =>
    obtain ⟨o, j, n, rfl, hR, hF, hj, ho, hn, hr⟩ := hrel
    clear H HR0 HN0
    have HF := Lib.hid hF
    have HM := Lib.hid (hR.atOf)
    by_cases hjs : j < s.size
    · have HE := Lib.hid (ended_no wr p s j hjs hs hR)
      have HT := Lib.hid (fun w (h : RM w p s j) => rest_any w p s j hj hs h)
      have HO := Lib.hid (fun w => partOf_any (s.data.toList.drop j) q w)
      obtain ⟨m, rfl⟩ : ∃ m, n = m + 1 := ⟨n - 1, by omega⟩
      have hm : s.size - (j + 1) ≤ m := by omega
      rw [nestL, if_neg (by rw [size_len]; omega)] at hr
      generalize hy : st (s.data.toList.drop j) = y at *
      cases hk : kd q (s.data.toList.drop j) with
      | some x =>
        rw [hk] at hr HO
        have hlen := kd_len _ _ _ hk
        rw [List.length_drop, size_len] at hlen
        have HP := Lib.hid (fun w (h : RM w p s j) => HD.out w p s j q x within hs hw (by omega) h)
        obtain ⟨gx, gy⟩ := kb_ne x
        clear hR hF hy hlen
        generalize st (kb (some x)) = b at *
        dsimp only at hr
        cases hp : partL s.data.toList d q x j with
        | ok j' =>
          have hle := partL_le _ _ _ _ _ _ hp
          rw [size_len] at hle
          rw [hp] at hr HP
          have HV := Lib.hid hr
          clear hr hk hp
          go_wp2_with (first | (go_at_call 20; (with_reducible refine HE.out.mono ?_); rintro e w1 ⟨rfl, hR, hF⟩; have HR1 := Lib.hid hR; have HG1 := Lib.hid (HF.out.trans hF); clear hR hF) | (go_at_call 34; (with_reducible refine (HT.out _ HR1.out).mono ?_); rintro e w2 ⟨rfl, hR, hF⟩; obtain ⟨c0, c1, f1⟩ := hR.cells; have HR2 := Lib.hid hR; have HG2 := Lib.hid (HG1.out.trans hF); clear hR hF) | (go_at_call 47; (with_reducible refine (HO.out _).mono ?_); rintro e w3 ⟨rfl, rfl⟩) | (go_at_call 48; (with_reducible refine (HP.out _ HR2.out).mono ?_); rintro e w4 ⟨rfl, hR, hF⟩; have HR4 := Lib.hid hR; have HG4 := Lib.hid (HG2.out.trans hF); clear hR hF))
          have hR4 : RM w4 p s j' := HR4.out
          refine ⟨⟨o, j', m, rfl, hR4, HG4.out, by omega, by omega, by omega, HV.out⟩, ?_⟩
          rw [hR4.atOf, HM.out]; omega
        | more =>
          rw [hp] at hr HP
          subst hr
          clear hk hp
          go_wp2_with (first | (go_at_call 20; (with_reducible refine HE.out.mono ?_); rintro e w1 ⟨rfl, hR, hF⟩; have HR1 := Lib.hid hR; have HG1 := Lib.hid (HF.out.trans hF); clear hR hF) | (go_at_call 34; (with_reducible refine (HT.out _ HR1.out).mono ?_); rintro e w2 ⟨rfl, hR, hF⟩; obtain ⟨c0, c1, f1⟩ := hR.cells; have HR2 := Lib.hid hR; have HG2 := Lib.hid (HG1.out.trans hF); clear hR hF) | (go_at_call 47; (with_reducible refine (HO.out _).mono ?_); rintro e w3 ⟨rfl, rfl⟩) | (go_at_call 48; (with_reducible refine (HP.out _ HR2.out).mono ?_); rintro e w4 ⟨rfl, hR, hF⟩; have HR4 := Lib.hid hR; have HG4 := Lib.hid (HG2.out.trans hF); clear hR hF))
          go_ret
          exact ⟨rfl, HR4.out, HG4.out⟩
        | deep z =>
          rw [hp] at hr HP
          subst hr
          clear hk hp
          go_wp2_with (first | (go_at_call 20; (with_reducible refine HE.out.mono ?_); rintro e w1 ⟨rfl, hR, hF⟩; have HR1 := Lib.hid hR; have HG1 := Lib.hid (HF.out.trans hF); clear hR hF) | (go_at_call 34; (with_reducible refine (HT.out _ HR1.out).mono ?_); rintro e w2 ⟨rfl, hR, hF⟩; obtain ⟨c0, c1, f1⟩ := hR.cells; have HR2 := Lib.hid hR; have HG2 := Lib.hid (HG1.out.trans hF); clear hR hF) | (go_at_call 47; (with_reducible refine (HO.out _).mono ?_); rintro e w3 ⟨rfl, rfl⟩) | (go_at_call 48; (with_reducible refine (HP.out _ HR2.out).mono ?_); rintro e w4 ⟨rfl, hR, hF⟩; have HR4 := Lib.hid hR; have HG4 := Lib.hid (HG2.out.trans hF); clear hR hF))
          go_ret
          exact ⟨rfl, HR4.out, HG4.out⟩
      | none =>
        rw [hk] at hr HO
        dsimp only at hr
        rw [getD_at hjs] at hr
        clear hR hF hy hk HD
        have gx : (((st (kb none)).toList == []) : Bool) = true := by rw [st_toList]; rfl
        have gy : (((st (kb none)).toList != []) : Bool) = false := by rw [st_toList]; rfl
        generalize st (kb none) = b at *
        have hr' := Lib.hid hr
        clear hr
        go_upto_region 8 with (first | (go_at_call 20; (with_reducible refine HE.out.mono ?_); rintro e w1 ⟨rfl, hR, hF⟩; have HR1 := Lib.hid hR; have HG1 := Lib.hid (HF.out.trans hF); clear hR hF) | (go_at_call 34; (with_reducible refine (HT.out _ HR1.out).mono ?_); rintro e w2 ⟨rfl, hR, hF⟩; obtain ⟨c0, c1, f1⟩ := hR.cells; have HR2 := Lib.hid hR; have HG2 := Lib.hid (HG1.out.trans hF); clear hR hF) | (go_at_call 47; (with_reducible refine (HO.out _).mono ?_); rintro e w3 ⟨rfl, rfl⟩))
        go_quiet (fail)
        have hR3 := (HR2.out.drewN nq).one
        have HG3 := Lib.hid ((HG2.out.drewN nq).setCell (p := ⟨p, 1, none⟩) (.inl rfl) (.int .i64 ((j : Int) + 1)))
        have HR3 := Lib.hid hR3
        have HA := Lib.hid (hR3.atOf)
        clear hR3
        by_cases hA : s[j] = c ∧ o = 0
        · have hr := hr'.out
          rw [if_pos hA] at hr
          have g1 : (((s[j].toNat : Int) == (c.toNat : Int)) : Bool) = true := u8_true _ _ hA.1
          have hA2 := hA.2
          clear hA hr'
          subst hA2
          have HV := Lib.hid hr
          clear hr
          go_wp2
          go_ret
          rw [← HV.out]
          exact ⟨rfl, HR3.out, HG3.out⟩
        · have hr := hr'.out
          rw [if_neg hA] at hr
          clear hr'
          by_cases h41 : c = 41
          · have g2 : (((c.toNat : Int) == 41) : Bool) = true := u8_true c 41 h41
            by_cases h40 : s[j] = 40
            · rw [if_pos ⟨h41, h40⟩] at hr
              have g1 : (((s[j].toNat : Int) == (c.toNat : Int)) : Bool) = false := u8_false _ _ (by rw [h40, h41]; decide)
              have g3 : (((s[j].toNat : Int) == 40) : Bool) = true := u8_true s[j] 40 h40
              have HV := Lib.hid hr
              clear hr h40 h41 hA
              go_wp2
              refine ⟨⟨o + 1, j + 1, m, rfl, HR3.out, HG3.out, by omega, by omega, hm, HV.out⟩, ?_⟩
              rw [HA.out, HM.out]; omega
            · rw [if_neg (fun h => h40 h.2)] at hr
              have g3 : (((s[j].toNat : Int) == 40) : Bool) = false := u8_false s[j] 40 h40
              by_cases hc : s[j] = 41
              · rw [if_pos ⟨h41, hc⟩] at hr
                have g1 : (((s[j].toNat : Int) == (c.toNat : Int)) : Bool) = true := u8_true _ _ (by rw [hc, h41])
                have g4 : (((s[j].toNat : Int) == 41) : Bool) = true := u8_true s[j] 41 hc
                have ho0 : 0 < o := Nat.pos_of_ne_zero fun e => hA ⟨by rw [hc, h41], e⟩
                have go : ((((o : Nat) : Int) == 0) : Bool) = false := by rw [beq_eq_false_iff_ne]; omega
                have HV := Lib.hid hr
                clear hr h40 h41 hA hc
                go_wp2
                refine ⟨⟨o - 1, j + 1, m, by congr 1; omega, HR3.out, HG3.out, by omega, by omega, hm, HV.out⟩, ?_⟩
                rw [HA.out, HM.out]; omega
              · rw [if_neg (fun h => hc h.2)] at hr
                have g1 : (((s[j].toNat : Int) == (c.toNat : Int)) : Bool) = false := u8_false _ _ (by rw [h41]; exact hc)
                have g4 : (((s[j].toNat : Int) == 41) : Bool) = false := u8_false s[j] 41 hc
                have HV := Lib.hid hr
                clear hr h40 h41 hA hc
                go_wp2
                refine ⟨⟨o, j + 1, m, rfl, HR3.out, HG3.out, by omega, by omega, hm, HV.out⟩, ?_⟩
                rw [HA.out, HM.out]; omega
          · have g2 : (((c.toNat : Int) == 41) : Bool) = false := u8_false c 41 h41
            rw [if_neg (fun h => h41 h.1), if_neg (fun h => h41 h.1)] at hr
            have HV := Lib.hid hr
            clear hr
            by_cases hc : s[j] = c
            · have g1 : (((s[j].toNat : Int) == (c.toNat : Int)) : Bool) = true := u8_true _ _ hc
              have ho0 : 0 < o := Nat.pos_of_ne_zero fun e => hA ⟨hc, e⟩
              have go : ((((o : Nat) : Int) == 0) : Bool) = false := by rw [beq_eq_false_iff_ne]; omega
              clear h41 hA hc
              go_wp2
              refine ⟨⟨o, j + 1, m, rfl, HR3.out, HG3.out, by omega, by omega, hm, HV.out⟩, ?_⟩
              rw [HA.out, HM.out]; omega
            · have g1 : (((s[j].toNat : Int) == (c.toNat : Int)) : Bool) = false := u8_false _ _ hc
              clear h41 hA hc
              go_wp2
              refine ⟨⟨o, j + 1, m, rfl, HR3.out, HG3.out, by omega, by omega, hm, HV.out⟩, ?_⟩
              rw [HA.out, HM.out]; omega
    · obtain rfl : j = s.size := by omega
      have HE := Lib.hid (ended_yes wr p s hs hR)
      rw [nest_end _ _ _ _ _ _ _ (by rw [size_len]; omega)] at hr
      clear hR hF
      subst hr
      go_wp2_with (go_at_call 20; (with_reducible refine HE.out.mono ?_); rintro e w1 ⟨rfl, hR, hF⟩; have HR1 := Lib.hid hR; have HG1 := Lib.hid (HF.out.trans hF); clear hR hF)
      go_ret
      exact ⟨rfl, HR1.out, HG1.out⟩
theorem part_step (l : Bs) (d : Nat) (q : Bool) (k : Kd) (i : Nat) : partL l (d + 1) q k i = match k with
    | .esc => if i + 1 < l.length then .ok (i + 2) else .more
    | .sq => lift (i + 1) (toQ 39 (l.drop (i + 1)))
    | .dq => nestL (partL l d) 34 true l l.length (i + 1) 0
    | .ar => lift (i + 3) (ari 0 (l.drop (i + 3)))
    | .su => nestL (partL l d) 41 false l l.length (i + 2) 0
    | .pa => nestL (partL l d) 125 q l l.length (i + 2) 0
    | .gr => lift (i + 1) (grv (l.drop (i + 1))) := by cases k <;> rfl
theorem RM.add {W : World} {p : Nat} {s : ByteArray} {k : Nat} (h : RM W p s k) (n : Nat) : RM (W.setCell ⟨p, 1, none⟩ (.int .i64 ((k : Int) + (n : Int)))) p s (k + n) := heap_set h 1 _
theorem part_zero : PartC 0 := by
  intro W p s k q x within hs hw hl h
  have hs' := hs
  unfold maxLen at hs'
  obtain rfl : within = 25 := by omega
  have H := Lib.hid h
  clear h
  generalize st (kb (some x)) = b at *
  go_enter Try.func48, Try.ntmps48
  go_wp2
  go_ret
  exact ⟨rfl, H.out, Fr.refl _ _⟩
set_option maxHeartbeats 8000000 in
theorem part_succ (d : Nat) (HD : PartC d) : PartC (d + 1) := by
  intro W p s k q x within hs hw hl h
  have hs' := hs
  unfold maxLen at hs'
  obtain ⟨c0, c1, f1⟩ := h.cells
  have HW := Lib.hid hw
  have hwi : within ≤ 24 := by omega
  rw [part_step]
  have HN := Lib.hid (fun (W : World) (k : Nat) (c : UInt8) (q : Bool) (hk : k ≤ s.size) (h : RM W p s k) => nesting_any d HD W p s k c q (within + 1) s.data.toList.length hk (by rw [size_len]; omega) hs (by omega) h)
  clear HD hw
  cases x
  case esc =>
    have hl : k + 1 ≤ s.size := hl
    have HR := Lib.hid (show RM (W.setCell ⟨p, 1, none⟩ (.int .i64 ((k : Int) + 1))) p s (k + 1) from h.add 1)
    have HF := Lib.hid (Fr.one W p 1 (.int .i64 ((k : Int) + 1)))
    have HC := Lib.hid (show Calls Try.prog 54 #[.pointer (some ⟨p, 0, none⟩)] (W.setCell ⟨p, 1, none⟩ (.int .i64 ((k : Int) + 1))) (partPost (W.setCell ⟨p, 1, none⟩ (.int .i64 ((k : Int) + 1))) p s (if k + 1 < s.data.toList.length then .ok (k + 2) else .more)) from (by have := oneMore_any _ p s (k + 1) hl hs HR.out; rw [← size_len] at this; exact this))
    dsimp only
    generalize (if k + 1 < s.data.toList.length then .ok (k + 2) else .more : R) = r at *
    have hb : st (kb (some .esc)) = ⟨#[92]⟩ := rfl
    rw [hb]
    clear hb h HN
    go_enter Try.func48, Try.ntmps48
    go_wp2_with (go_at_call 54; (with_reducible refine HC.out.mono ?_); rintro e w1 ⟨rfl, hR, hF⟩)
    go_ret
    exact ⟨rfl, hR, HF.out.trans hF⟩
  case sq =>
    have hl : k + 1 ≤ s.size := hl
    have HR := Lib.hid (show RM (W.setCell ⟨p, 1, none⟩ (.int .i64 ((k : Int) + 1))) p s (k + 1) from h.add 1)
    have HF := Lib.hid (Fr.one W p 1 (.int .i64 ((k : Int) + 1)))
    have HC := Lib.hid (show Calls Try.prog 55 #[.pointer (some ⟨p, 0, none⟩), .int .u8 39] (W.setCell ⟨p, 1, none⟩ (.int .i64 ((k : Int) + 1))) (partPost (W.setCell ⟨p, 1, none⟩ (.int .i64 ((k : Int) + 1))) p s (lift (k + 1) (toQ 39 (s.data.toList.drop (k + 1))))) from plain_any _ p s (k + 1) 39 hl hs HR.out)
    dsimp only
    generalize (lift (k + 1) (toQ 39 (s.data.toList.drop (k + 1))) : R) = r at *
    have hb : st (kb (some .sq)) = ⟨#[39]⟩ := rfl
    rw [hb]
    clear hb h HN
    go_enter Try.func48, Try.ntmps48
    go_wp2_with (go_at_call 55; (with_reducible refine HC.out.mono ?_); rintro e w1 ⟨rfl, hR, hF⟩)
    go_ret
    exact ⟨rfl, hR, HF.out.trans hF⟩
  case dq =>
    have hl : k + 1 ≤ s.size := hl
    have HR := Lib.hid (show RM (W.setCell ⟨p, 1, none⟩ (.int .i64 ((k : Int) + 1))) p s (k + 1) from h.add 1)
    have HF := Lib.hid (Fr.one W p 1 (.int .i64 ((k : Int) + 1)))
    have HC := Lib.hid (show Calls Try.prog 56 #[.pointer (some ⟨p, 0, none⟩), .int .u8 34, .int .i64 ((within : Int) + 1), .bool true] (W.setCell ⟨p, 1, none⟩ (.int .i64 ((k : Int) + 1))) (partPost (W.setCell ⟨p, 1, none⟩ (.int .i64 ((k : Int) + 1))) p s (nestL (partL s.data.toList d) 34 true s.data.toList s.data.toList.length (k + 1) 0)) from HN.out _ (k + 1) 34 true hl HR.out)
    dsimp only
    generalize (nestL (partL s.data.toList d) 34 true s.data.toList s.data.toList.length (k + 1) 0 : R) = r at *
    have hb : st (kb (some .dq)) = ⟨#[34]⟩ := rfl
    rw [hb]
    clear hb h HN
    go_enter Try.func48, Try.ntmps48
    go_wp2_with (go_at_call 56; (with_reducible refine HC.out.mono ?_); rintro e w1 ⟨rfl, hR, hF⟩)
    go_ret
    exact ⟨rfl, hR, HF.out.trans hF⟩
  case ar =>
    have hl : k + 3 ≤ s.size := hl
    have HR := Lib.hid (show RM (W.setCell ⟨p, 1, none⟩ (.int .i64 ((k : Int) + 3))) p s (k + 3) from h.add 3)
    have HF := Lib.hid (Fr.one W p 1 (.int .i64 ((k : Int) + 3)))
    have HC := Lib.hid (show Calls Try.prog 57 #[.pointer (some ⟨p, 0, none⟩)] (W.setCell ⟨p, 1, none⟩ (.int .i64 ((k : Int) + 3))) (partPost (W.setCell ⟨p, 1, none⟩ (.int .i64 ((k : Int) + 3))) p s (lift (k + 3) (ari 0 (s.data.toList.drop (k + 3))))) from arith_any _ p s (k + 3) hl hs HR.out)
    dsimp only
    generalize (lift (k + 3) (ari 0 (s.data.toList.drop (k + 3))) : R) = r at *
    have hb : st (kb (some .ar)) = ⟨#[36, 40, 40]⟩ := rfl
    rw [hb]
    clear hb h HN
    go_enter Try.func48, Try.ntmps48
    go_wp2_with (go_at_call 57; (with_reducible refine HC.out.mono ?_); rintro e w1 ⟨rfl, hR, hF⟩)
    go_ret
    exact ⟨rfl, hR, HF.out.trans hF⟩
  case su =>
    have hl : k + 2 ≤ s.size := hl
    have HR := Lib.hid (show RM (W.setCell ⟨p, 1, none⟩ (.int .i64 ((k : Int) + 2))) p s (k + 2) from h.add 2)
    have HF := Lib.hid (Fr.one W p 1 (.int .i64 ((k : Int) + 2)))
    have HC := Lib.hid (show Calls Try.prog 56 #[.pointer (some ⟨p, 0, none⟩), .int .u8 41, .int .i64 ((within : Int) + 1), .bool false] (W.setCell ⟨p, 1, none⟩ (.int .i64 ((k : Int) + 2))) (partPost (W.setCell ⟨p, 1, none⟩ (.int .i64 ((k : Int) + 2))) p s (nestL (partL s.data.toList d) 41 false s.data.toList s.data.toList.length (k + 2) 0)) from HN.out _ (k + 2) 41 false hl HR.out)
    dsimp only
    generalize (nestL (partL s.data.toList d) 41 false s.data.toList s.data.toList.length (k + 2) 0 : R) = r at *
    have hb : st (kb (some .su)) = ⟨#[36, 40]⟩ := rfl
    rw [hb]
    clear hb h HN
    go_enter Try.func48, Try.ntmps48
    go_wp2_with (go_at_call 56; (with_reducible refine HC.out.mono ?_); rintro e w1 ⟨rfl, hR, hF⟩)
    go_ret
    exact ⟨rfl, hR, HF.out.trans hF⟩
  case pa =>
    have hl : k + 2 ≤ s.size := hl
    have HR := Lib.hid (show RM (W.setCell ⟨p, 1, none⟩ (.int .i64 ((k : Int) + 2))) p s (k + 2) from h.add 2)
    have HF := Lib.hid (Fr.one W p 1 (.int .i64 ((k : Int) + 2)))
    have HC := Lib.hid (show Calls Try.prog 56 #[.pointer (some ⟨p, 0, none⟩), .int .u8 125, .int .i64 ((within : Int) + 1), .bool q] (W.setCell ⟨p, 1, none⟩ (.int .i64 ((k : Int) + 2))) (partPost (W.setCell ⟨p, 1, none⟩ (.int .i64 ((k : Int) + 2))) p s (nestL (partL s.data.toList d) 125 q s.data.toList s.data.toList.length (k + 2) 0)) from HN.out _ (k + 2) 125 q hl HR.out)
    dsimp only
    generalize (nestL (partL s.data.toList d) 125 q s.data.toList s.data.toList.length (k + 2) 0 : R) = r at *
    have hb : st (kb (some .pa)) = ⟨#[36, 123]⟩ := rfl
    rw [hb]
    clear hb h HN
    go_enter Try.func48, Try.ntmps48
    go_wp2_with (go_at_call 56; (with_reducible refine HC.out.mono ?_); rintro e w1 ⟨rfl, hR, hF⟩)
    go_ret
    exact ⟨rfl, hR, HF.out.trans hF⟩
  case gr =>
    have hl : k + 1 ≤ s.size := hl
    have HR := Lib.hid (show RM (W.setCell ⟨p, 1, none⟩ (.int .i64 ((k : Int) + 1))) p s (k + 1) from h.add 1)
    have HF := Lib.hid (Fr.one W p 1 (.int .i64 ((k : Int) + 1)))
    have HC := Lib.hid (show Calls Try.prog 58 #[.pointer (some ⟨p, 0, none⟩)] (W.setCell ⟨p, 1, none⟩ (.int .i64 ((k : Int) + 1))) (partPost (W.setCell ⟨p, 1, none⟩ (.int .i64 ((k : Int) + 1))) p s (lift (k + 1) (grv (s.data.toList.drop (k + 1))))) from grave_any _ p s (k + 1) hl hs HR.out)
    dsimp only
    generalize (lift (k + 1) (grv (s.data.toList.drop (k + 1))) : R) = r at *
    have hb : st (kb (some .gr)) = ⟨#[96]⟩ := rfl
    rw [hb]
    clear hb h HN
    go_enter Try.func48, Try.ntmps48
    go_wp2_with (go_at_call 58; (with_reducible refine HC.out.mono ?_); rintro e w1 ⟨rfl, hR, hF⟩)
    go_ret
    exact ⟨rfl, hR, HF.out.trans hF⟩
theorem part_any (d : Nat) : PartC d := by
  induction d with
  | zero => exact part_zero
  | succ d ih => exact part_succ d ih

end Go.Proofs.Ytoahgblgchmclaa
