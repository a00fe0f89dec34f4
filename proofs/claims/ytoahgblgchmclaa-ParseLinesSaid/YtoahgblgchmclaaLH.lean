/- Contracts: word, skip. -/
import Derived.Test.YtoahgblgchmclaaLG
namespace Go.Proofs.Ytoahgblgchmclaa
open Go.RowKit
set_option linter.unusedVariables false
set_option linter.unusedSimpArgs false
theorem ended_q (W : World) (n : Nat) (p : Nat) (s : ByteArray) (k : Nat) (b : Bool) (hb : decide (k = s.size) = b) (hs : s.size ≤ maxLen) (h : RM W p s k) :
    Calls Try.prog 20 #[.pointer (some ⟨p, 0, none⟩)] (W.drewN n) fun e w' => e = .returned (.bool b) ∧ ∃ m, w' = W.drewN m := by
  refine Calls.quiet_of ?_
  have h := h.drewN n
  generalize W.drewN n = W at *
  unfold maxLen at hs
  obtain ⟨c0, c1, f1⟩ := h.cells
  clear h
  go_enter Try.func20, Try.ntmps20
  go_wp2
  go_quiet (fail)
  go_wp2
  go_ret
  exact ⟨ret_bool (by rw [← hb, Bool.eq_iff_iff]; simp; omega), _, rfl⟩
def wdRel (W : World) (p : Nat) (s : ByteArray) (r : R) (wr : World) : Prop :=
  ∃ (j n : Nat), RM wr p s j ∧ Fr (· = p) W wr ∧ j ≤ s.size ∧ s.size - j ≤ n ∧ wordL s.data.toList n j = r
theorem word_end (l : Bs) (n j : Nat) (h : l.length ≤ j) : wordL l n j = .ok j := by
  cases n with
  | zero => rw [wordL]
  | succ n => rw [wordL, if_pos h]
set_option maxHeartbeats 8000000 in
theorem word_any (W : World) (p : Nat) (s : ByteArray) (k n : Nat) (hk : k ≤ s.size) (hn : s.size - k ≤ n) (hs : s.size ≤ maxLen) (h : RM W p s k) :
    Calls Try.prog 35 #[.pointer (some ⟨p, 0, none⟩)] W (partPost W p s (wordL s.data.toList n k)) := by
  have hs' := hs
  unfold maxLen at hs'
  have H := Lib.hid h
  clear h
  obtain ⟨r, hr⟩ : ∃ r, wordL s.data.toList n k = r := ⟨_, rfl⟩
  rw [hr]
  have HR0 := Lib.hid hr
  have HN0 := Lib.hid hn
  clear hr hn
  go_enter Try.func35, Try.ntmps35
  go_wp2
  go_loopw [3, 4] (fun _ _ wr => wdRel W p s r wr) (fun _ _ wr => s.size - atOf wr p)
  case atStart => exact ⟨k, n, H.out, Fr.refl _ _, hk, HN0.out, HR0.out⟩
  case round =>
    obtain ⟨j, n, hR, hF, hj, hn, hr⟩ := hrel
    clear H HR0 HN0
    have HF := Lib.hid hF
    have HM := Lib.hid (hR.atOf)
    have HR := Lib.hid hR
    by_cases hjs : j < s.size
    · have HE := Lib.hid (fun n => ended_q wr n p s j false (decide_eq_false (by omega)) hs hR)
      have HS := Lib.hid (fun m => Calls.quiet_of_same (w := wr) (n := m) (endsWord_any s[j] (wr.drewN m)))
      have HT := Lib.hid (fun w (h : RM w p s j) => rest_any w p s j hj hs h)
      have HO := Lib.hid (fun w => partOf_any (s.data.toList.drop j) false w)
      obtain ⟨m, rfl⟩ : ∃ m, n = m + 1 := ⟨n - 1, by omega⟩
      have hm : s.size - (j + 1) ≤ m := by omega
      rw [wordL, if_neg (by rw [size_len]; omega), getD_at hjs] at hr
      obtain ⟨c0, c1, f1⟩ := hR.cells
      clear hR hF
      cases hst : stopB s[j] with
      | true =>
        rw [hst] at hr HS
        rw [if_pos rfl] at hr
        clear hst
        go_wp2
        go_quiet (first | (go_at_call 20; exact (HE.out _)) | (go_at_call 46; exact (HS.out _)))
        go_wp2
        go_ret
        rw [← hr]
        exact ⟨rfl, HR.out.drewN _, HF.out.drewN _⟩
      | false =>
        rw [hst] at hr HS
        rw [if_neg (by decide)] at hr
        clear hst
        generalize hy : st (s.data.toList.drop j) = y at *
        cases hk : kd false (s.data.toList.drop j) with
        | some x =>
          rw [hk] at hr HO
          have hlen := kd_len _ _ _ hk
          rw [List.length_drop, size_len] at hlen
          have HP := Lib.hid (fun w (h : RM w p s j) => (show Calls Try.prog 48 #[.pointer (some ⟨p, 0, none⟩), .string (st (kb (some x))), .int .i64 0, .bool false] w (partPost w p s (partL s.data.toList 25 false x j)) from part_any 25 w p s j false x 0 hs rfl (by omega) h))
          obtain ⟨gx, gy⟩ := kb_ne x
          clear hy hlen
          generalize st (kb (some x)) = b at *
          dsimp only at hr
          cases hp : partL s.data.toList 25 false x j with
          | ok j' =>
            have hle := partL_le _ _ _ _ _ _ hp
            rw [size_len] at hle
            rw [hp] at hr HP
            have HV := Lib.hid hr
            clear hr hk hp
            go_wp2
            go_quiet (first | (go_at_call 20; exact (HE.out _)) | (go_at_call 46; exact (HS.out _)))
            have HR1 := Lib.hid (HR.out.drewN nq)
            have HG1 := Lib.hid (HF.out.drewN nq)
            go_wp2_with (first | (go_at_call 34; (with_reducible refine (HT.out _ HR1.out).mono ?_); rintro e w2 ⟨rfl, hR, hF⟩; obtain ⟨c0, c1, f1⟩ := hR.cells; have HR2 := Lib.hid hR; have HG2 := Lib.hid (HG1.out.trans hF); clear hR hF) | (go_at_call 47; (with_reducible refine (HO.out _).mono ?_); rintro e w3 ⟨rfl, rfl⟩) | (go_at_call 48; (with_reducible refine (HP.out _ HR2.out).mono ?_); rintro e w4 ⟨rfl, hR, hF⟩; have HR4 := Lib.hid hR; have HG4 := Lib.hid (HG2.out.trans hF); clear hR hF))
            have hR4 : RM w4 p s j' := HR4.out
            refine ⟨⟨j', m, hR4, HG4.out, by omega, by omega, HV.out⟩, ?_⟩
            rw [hR4.atOf, HM.out]; omega
          | more =>
            rw [hp] at hr HP
            subst hr
            clear hk hp
            go_wp2
            go_quiet (first | (go_at_call 20; exact (HE.out _)) | (go_at_call 46; exact (HS.out _)))
            have HR1 := Lib.hid (HR.out.drewN nq)
            have HG1 := Lib.hid (HF.out.drewN nq)
            go_wp2_with (first | (go_at_call 34; (with_reducible refine (HT.out _ HR1.out).mono ?_); rintro e w2 ⟨rfl, hR, hF⟩; obtain ⟨c0, c1, f1⟩ := hR.cells; have HR2 := Lib.hid hR; have HG2 := Lib.hid (HG1.out.trans hF); clear hR hF) | (go_at_call 47; (with_reducible refine (HO.out _).mono ?_); rintro e w3 ⟨rfl, rfl⟩) | (go_at_call 48; (with_reducible refine (HP.out _ HR2.out).mono ?_); rintro e w4 ⟨rfl, hR, hF⟩; have HR4 := Lib.hid hR; have HG4 := Lib.hid (HG2.out.trans hF); clear hR hF))
            go_ret
            exact ⟨rfl, HR4.out, HG4.out⟩
          | deep z =>
            rw [hp] at hr HP
            subst hr
            clear hk hp
            go_wp2
            go_quiet (first | (go_at_call 20; exact (HE.out _)) | (go_at_call 46; exact (HS.out _)))
            have HR1 := Lib.hid (HR.out.drewN nq)
            have HG1 := Lib.hid (HF.out.drewN nq)
            go_wp2_with (first | (go_at_call 34; (with_reducible refine (HT.out _ HR1.out).mono ?_); rintro e w2 ⟨rfl, hR, hF⟩; obtain ⟨c0, c1, f1⟩ := hR.cells; have HR2 := Lib.hid hR; have HG2 := Lib.hid (HG1.out.trans hF); clear hR hF) | (go_at_call 47; (with_reducible refine (HO.out _).mono ?_); rintro e w3 ⟨rfl, rfl⟩) | (go_at_call 48; (with_reducible refine (HP.out _ HR2.out).mono ?_); rintro e w4 ⟨rfl, hR, hF⟩; have HR4 := Lib.hid hR; have HG4 := Lib.hid (HG2.out.trans hF); clear hR hF))
            go_ret
            exact ⟨rfl, HR4.out, HG4.out⟩
        | none =>
          rw [hk] at hr HO
          dsimp only at hr
          have gx : (((st (kb none)).toList == []) : Bool) = true := by rw [st_toList]; rfl
          generalize st (kb none) = b at *
          have HV := Lib.hid hr
          clear hr hk
          go_wp2
          go_quiet (first | (go_at_call 20; exact (HE.out _)) | (go_at_call 46; exact (HS.out _)))
          have HR1 := Lib.hid (HR.out.drewN nq)
          have HG1 := Lib.hid (HF.out.drewN nq)
          go_wp2_with (first | (go_at_call 34; (with_reducible refine (HT.out _ HR1.out).mono ?_); rintro e w2 ⟨rfl, hR, hF⟩; obtain ⟨c0, c1, f1⟩ := hR.cells; have HR2 := Lib.hid hR; have HG2 := Lib.hid (HG1.out.trans hF); clear hR hF) | (go_at_call 47; (with_reducible refine (HO.out _).mono ?_); rintro e w3 ⟨rfl, rfl⟩))
          refine ⟨⟨j + 1, m, HR2.out.one, HG2.out.setCell (p := ⟨p, 1, none⟩) (.inl rfl) _, by omega, hm, HV.out⟩, ?_⟩
          rw [HR2.out.one.atOf, HM.out]; omega
    · obtain rfl : j = s.size := by omega
      have HE := Lib.hid (fun n => ended_q wr n p s s.size true (decide_eq_true rfl) hs hR)
      rw [word_end _ _ _ (by rw [size_len]; omega)] at hr
      obtain ⟨c0, c1, f1⟩ := hR.cells
      clear hR hF
      subst hr
      go_wp2
      go_quiet (first | (go_at_call 20; exact (HE.out _)))
      go_wp2
      go_ret
      exact ⟨rfl, HR.out.drewN _, HF.out.drewN _⟩
end Go.Proofs.Ytoahgblgchmclaa
