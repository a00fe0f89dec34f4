/- Contracts: skipComment, graveText, arithmetic. -/
import Derived.Test.YtoahgblgchmclaaLE
import Derived.Deep.Cut
namespace Go.Proofs.Ytoahgblgchmclaa
open Go.RowKit
set_option linter.unusedVariables false
set_option linter.unusedSimpArgs false
theorem pre_one (c d : UInt8) (r : Bs) : pre [c] (d :: r) = decide (d = c) := by
  unfold pre
  by_cases h : d = c
  · subst h; simp [List.isPrefixOf]
  · simp [List.isPrefixOf, h, Ne.symm h]
theorem pre_two (c e d : UInt8) (r : Bs) : pre [c, e] (d :: r) = decide (d = c ∧ r.head? = some e) := by
  unfold pre
  cases r with
  | nil => simp [List.isPrefixOf]
  | cons f r =>
    by_cases h : d = c
    · subst h
      by_cases h2 : f = e
      · subst h2; simp [List.isPrefixOf]
      · simp [List.isPrefixOf, h2, Ne.symm h2]
    · simp [List.isPrefixOf, h, Ne.symm h]
theorem finds_one (W : World) (p : Nat) (s : ByteArray) (k : Nat) (c : UInt8) (b : Bool) (hk : k < s.size) (hb : decide (s[k] = c) = b) (hs : s.size ≤ maxLen) (h : RM W p s k) :
    Calls Try.prog 31 #[.pointer (some ⟨p, 0, none⟩), .string ⟨#[c]⟩] W fun e w' => e = .returned (.bool b) ∧ RM w' p s k ∧ Fr (· = p) W w' := by
  have := finds_any W p s k [c] (by omega) hs h
  rw [at_byte hk, pre_one, hb] at this
  exact this
theorem finds_two (W : World) (p : Nat) (s : ByteArray) (k : Nat) (c d : UInt8) (b : Bool) (hk : k < s.size) (hb : decide (s[k] = c ∧ (s.data.toList.drop (k + 1)).head? = some d) = b) (hs : s.size ≤ maxLen) (h : RM W p s k) :
    Calls Try.prog 31 #[.pointer (some ⟨p, 0, none⟩), .string ⟨#[c, d]⟩] W fun e w' => e = .returned (.bool b) ∧ RM w' p s k ∧ Fr (· = p) W w' := by
  have := finds_any W p s k [c, d] (by omega) hs h
  rw [at_byte hk, pre_two, hb] at this
  exact this
theorem cmt_at (s : ByteArray) (k : Nat) (h : k < s.size) : cmt s.data.toList k = if s[k] = 10 then k else cmt s.data.toList (k + 1) := by
  unfold cmt
  rw [at_byte h, List.takeWhile_cons]
  by_cases h1 : s[k] = 10
  · simp [h1]
  · simp [h1]; omega
theorem cmt_end (s : ByteArray) (k : Nat) (h : s.size ≤ k) : cmt s.data.toList k = k := by
  unfold cmt
  rw [List.drop_eq_nil_of_le (by rw [size_len]; omega)]; rfl
theorem cmt_le (s : ByteArray) (k : Nat) (h : k ≤ s.size) : k ≤ cmt s.data.toList k ∧ cmt s.data.toList k ≤ s.size := by
  unfold cmt
  have := List.takeWhile_prefix (l := s.data.toList.drop k) (fun c => c != 10)
  have := this.length_le
  rw [List.length_drop, size_len] at this
  omega
def scRel (W : World) (p : Nat) (s : ByteArray) (m : Nat) (wr : World) : Prop :=
  ∃ j, RM wr p s j ∧ Fr (· = p) W wr ∧ j ≤ s.size ∧ cmt s.data.toList j = m
set_option maxHeartbeats 2000000 in
theorem skipC_any (W : World) (p : Nat) (s : ByteArray) (k : Nat) (hk : k ≤ s.size) (hs : s.size ≤ maxLen) (h : RM W p s k) :
    Calls Try.prog 32 #[.pointer (some ⟨p, 0, none⟩)] W fun e w' => e = .returned (.tuple #[]) ∧ RM w' p s (cmt s.data.toList k) ∧ Fr (· = p) W w' := by
  have hs' := hs
  unfold maxLen at hs'
  have H := Lib.hid h
  clear h
  obtain ⟨m, hm⟩ : ∃ m, cmt s.data.toList k = m := ⟨_, rfl⟩
  rw [hm]
  have HR0 := Lib.hid hm
  clear hm
  go_enter Try.func32, Try.ntmps32
  go_wp2
  go_loopw [] (fun wr => scRel W p s m wr) (fun wr => s.size - atOf wr p)
  case atStart => exact ⟨k, H.out, Fr.refl _ _, hk, HR0.out⟩
  case round =>
    obtain ⟨j, hR, hF, hj, hr⟩ := hrel
    clear H HR0
    have HF := Lib.hid hF
    have HM := Lib.hid (hR.atOf)
    by_cases hjs : j < s.size
    · have HE := Lib.hid (ended_no wr p s j hjs hs hR)
      rw [cmt_at s j hjs] at hr
      have HN := Lib.hid (fun b hb w1 (h : RM w1 p s j) => finds_one w1 p s j 10 b hjs hb hs h)
      clear hR hF
      by_cases hc : s[j] = 10
      · rw [if_pos hc] at hr
        have HN := Lib.hid (HN.out true (decide_eq_true hc))
        subst hr
        clear hc
        go_wp2_with (first | (go_at_call 20; (with_reducible refine HE.out.mono ?_); rintro e w1 ⟨rfl, hR, hF⟩; obtain ⟨c0, c1, f1⟩ := hR.cells; have HR1 := Lib.hid hR; have HF1 := Lib.hid (HF.out.trans hF); clear hR hF) | (go_at_call 31; (with_reducible refine (HN.out _ HR1.out).mono ?_); rintro e w2 ⟨rfl, hR, hF⟩; have HR2 := Lib.hid hR; have HF2 := Lib.hid (HF1.out.trans hF); clear hR hF))
        refine bodyPost_end (results_none rfl _ _ _) rfl ?_
        exact ⟨rfl, HR2.out, HF2.out⟩
      · rw [if_neg hc] at hr
        have HN := Lib.hid (HN.out false (decide_eq_false hc))
        have HV := Lib.hid hr
        clear hc hr
        go_wp2_with (first | (go_at_call 20; (with_reducible refine HE.out.mono ?_); rintro e w1 ⟨rfl, hR, hF⟩; obtain ⟨c0, c1, f1⟩ := hR.cells; have HR1 := Lib.hid hR; have HF1 := Lib.hid (HF.out.trans hF); clear hR hF) | (go_at_call 31; (with_reducible refine (HN.out _ HR1.out).mono ?_); rintro e w2 ⟨rfl, hR, hF⟩; obtain ⟨d0, d1, g1⟩ := hR.cells; have HR2 := Lib.hid hR; have HF2 := Lib.hid (HF1.out.trans hF); clear hR hF))
        refine ⟨⟨j + 1, HR2.out.one, HF2.out.setCell (p := ⟨p, 1, none⟩) (.inl rfl) _, hjs, HV.out⟩, ?_⟩
        rw [HR2.out.one.atOf, HM.out]; omega
    · obtain rfl : j = s.size := by omega
      have HE := Lib.hid (ended_yes wr p s hs hR)
      rw [cmt_end _ _ (Nat.le_refl _)] at hr
      clear hR hF
      subst hr
      go_wp2_with (go_at_call 20; (with_reducible refine HE.out.mono ?_); rintro e w1 ⟨rfl, hR, hF⟩; obtain ⟨c0, c1, f1⟩ := hR.cells; have HR1 := Lib.hid hR; have HF1 := Lib.hid (HF.out.trans hF); clear hR hF)
      refine bodyPost_end (results_none rfl _ _ _) rfl ?_
      exact ⟨rfl, HR1.out, HF1.out⟩
theorem grv_nil : grv [] = none := by rw [grv]
theorem grv_one (c : UInt8) : grv [c] = if c = 96 then some 1 else none := by rw [grv]
theorem grv_two (c d : UInt8) (r : Bs) : grv (c :: d :: r) = if c = 96 then some 1 else if c = 92 then (grv r).map (· + 2) else (grv (d :: r)).map (· + 1) := by rw [grv]
theorem grv_cons (c : UInt8) (r : Bs) (h : ¬ c = 92) : grv (c :: r) = if c = 96 then some 1 else (grv r).map (· + 1) := by
  cases r with
  | nil => rw [grv_one, grv_nil]; rfl
  | cons d r => rw [grv_two, if_neg h]
set_option maxHeartbeats 2000000 in
theorem grave_any (W : World) (p : Nat) (s : ByteArray) (k : Nat) (hk : k ≤ s.size) (hs : s.size ≤ maxLen) (h : RM W p s k) :
    Calls Try.prog 58 #[.pointer (some ⟨p, 0, none⟩)] W (partPost W p s (lift k (grv (s.data.toList.drop k)))) := by
  have hs' := hs
  unfold maxLen at hs'
  have H := Lib.hid h
  clear h
  obtain ⟨r, hr⟩ : ∃ r, lift k (grv (s.data.toList.drop k)) = r := ⟨_, rfl⟩
  rw [hr]
  have HR0 := Lib.hid hr
  clear hr
  go_enter Try.func58, Try.ntmps58
  go_wp2
  go_loopw [3] (fun _ wr => plRel W p s grv r wr) (fun _ wr => s.size - atOf wr p)
  case atStart => exact ⟨k, H.out, Fr.refl _ _, hk, HR0.out⟩
  case round =>
    obtain ⟨j, hR, hF, hj, hr⟩ := hrel
    clear H HR0
    have HR := Lib.hid hR
    have HF := Lib.hid hF
    have HM := Lib.hid (hR.atOf)
    by_cases hjs : j < s.size
    · have HE := Lib.hid (ended_no wr p s j hjs hs hR)
      have hat := at_byte hjs
      clear hR hF
      go_upto_region 2 with (go_at_call 20; (with_reducible refine HE.out.mono ?_); rintro e w1 ⟨rfl, hR, hF⟩; obtain ⟨c0, c1, f1⟩ := hR.cells; have HR1 := Lib.hid hR; have HF1 := Lib.hid (HF.out.trans hF); clear hR hF)
      go_quiet (fail)
      have hR2 := (HR1.out.drewN nq).one
      have HF2 := Lib.hid ((HF1.out.drewN nq).setCell (p := ⟨p, 1, none⟩) (.inl rfl) (.int .i64 ((j : Int) + 1)))
      obtain ⟨d0, d1, g1⟩ := hR2.cells
      have HR2 := Lib.hid hR2
      by_cases h96 : s[j] = 96
      · have g : (((s[j].toNat : Int) == 96) : Bool) = true := u8_true s[j] 96 h96
        rw [hat, h96, grv_cons 96 _ (by decide), if_pos rfl] at hr
        clear hat h96 hR2
        have HV := Lib.hid hr
        clear hr
        go_wp2
        go_ret
        rw [← HV.out]
        exact ⟨rfl, HR2.out, HF2.out⟩
      · have g : (((s[j].toNat : Int) == 96) : Bool) = false := u8_false s[j] 96 h96
        by_cases h92 : s[j] = 92
        · have g' : (((s[j].toNat : Int) == 92) : Bool) = true := u8_true s[j] 92 h92
          by_cases hj2 : j + 1 < s.size
          · have hat2 := at_byte hj2
            rw [hat, hat2, h92, grv_two, if_neg (by decide), if_pos rfl, lift_succ2] at hr
            have HE2 := Lib.hid (fun w h => ended_no w p s (j + 1) hj2 hs h)
            clear hat hat2 h96 h92 hR2
            have HV := Lib.hid hr
            clear hr
            go_wp2_with (go_at_call 20; (with_reducible refine (HE2.out _ HR2.out).mono ?_); rintro e w3 ⟨rfl, hR, hF⟩; obtain ⟨e0, e1, f3⟩ := hR.cells; have HR3 := Lib.hid hR; have HF3 := Lib.hid (HF2.out.trans hF); clear hR hF)
            have HR4 : RM (w3.setCell ⟨p, 1, none⟩ (.int .i64 ((j : Int) + 1 + 1))) p s (j + 2) := HR3.out.one
            refine ⟨⟨j + 2, HR4, HF3.out.setCell (p := ⟨p, 1, none⟩) (.inl rfl) _, hj2, HV.out⟩, ?_⟩
            rw [HR4.atOf, HM.out]; omega
          · have hat2 : s.data.toList.drop (j + 1) = [] := List.drop_eq_nil_of_le (by rw [size_len]; omega)
            rw [hat, hat2, h92, grv_one, if_neg (by decide)] at hr
            have hjn : s.size = j + 1 := by omega
            have HE2 := Lib.hid (fun w (h : RM w p s (j + 1)) => by have := ended_any w p s (j + 1) hs h; rw [decide_eq_true hjn.symm] at this; exact this)
            clear hat hat2 h96 h92 hR2
            have HV := Lib.hid hr
            clear hr
            go_wp2_with (go_at_call 20; (with_reducible refine (HE2.out _ HR2.out).mono ?_); rintro e w3 ⟨rfl, hR, hF⟩; obtain ⟨e0, e1, f3⟩ := hR.cells; have HR3 := Lib.hid hR; have HF3 := Lib.hid (HF2.out.trans hF); clear hR hF)
            refine ⟨⟨j + 1, HR3.out, HF3.out, by omega, ?_⟩, ?_⟩
            · rw [List.drop_eq_nil_of_le (by rw [size_len]; omega), grv_nil, ← HV.out]; rfl
            · rw [HR3.out.atOf, HM.out]; omega
        · have g' : (((s[j].toNat : Int) == 92) : Bool) = false := u8_false s[j] 92 h92
          rw [hat, grv_cons _ _ h92, if_neg h96, lift_succ] at hr
          clear hat h96 h92 hR2
          have HV := Lib.hid hr
          clear hr
          go_wp2
          refine ⟨⟨j + 1, HR2.out, HF2.out, by omega, HV.out⟩, ?_⟩
          rw [HR2.out.atOf, HM.out]; omega
    · obtain rfl : j = s.size := by omega
      have HE := Lib.hid (ended_yes wr p s hs hR)
      rw [List.drop_eq_nil_of_le (by rw [size_len]; omega), grv_nil] at hr
      clear hR hF
      subst hr
      go_wp2_with (go_at_call 20; (with_reducible refine HE.out.mono ?_); rintro e w1 ⟨rfl, hR, hF⟩; obtain ⟨c0, c1, f1⟩ := hR.cells; have HR1 := Lib.hid hR; have HF1 := Lib.hid (HF.out.trans hF); clear hR hF)
      go_ret
      exact ⟨rfl, HR1.out, HF1.out⟩
theorem ari_nil (o : Nat) : ari o [] = none := by rw [ari]
theorem ari_cons (o : Nat) (c : UInt8) (r : Bs) : ari o (c :: r) = if c = 40 then (ari (o + 1) r).map (· + 1) else if c = 41 ∧ 0 < o then (ari (o - 1) r).map (· + 1) else if c = 41 ∧ r.head? = some 41 then some 2 else (ari o r).map (· + 1) := by rw [ari]
def arRel (W : World) (p : Nat) (s : ByteArray) (r : R) (ov : Value) (wr : World) : Prop :=
  ∃ (o j : Nat), ov = .int .i64 o ∧ RM wr p s j ∧ Fr (· = p) W wr ∧ j ≤ s.size ∧ o ≤ j ∧ lift j (ari o (s.data.toList.drop j)) = r
set_option maxHeartbeats 2000000 in
theorem arith_any (W : World) (p : Nat) (s : ByteArray) (k : Nat) (hk : k ≤ s.size) (hs : s.size ≤ maxLen) (h : RM W p s k) :
    Calls Try.prog 57 #[.pointer (some ⟨p, 0, none⟩)] W (partPost W p s (lift k (ari 0 (s.data.toList.drop k)))) := by
  have hs' := hs
  unfold maxLen at hs'
  have H := Lib.hid h
  clear h
  obtain ⟨r, hr⟩ : ∃ r, lift k (ari 0 (s.data.toList.drop k)) = r := ⟨_, rfl⟩
  rw [hr]
  have HR0 := Lib.hid hr
  clear hr
  go_enter Try.func57, Try.ntmps57
  go_wp2
  go_loopw [3] (fun ov wr => arRel W p s r ov wr) (fun _ wr => s.size - atOf wr p)
  case atStart => exact ⟨0, k, rfl, H.out, Fr.refl _ _, hk, Nat.zero_le _, HR0.out⟩
  case round =>
    obtain ⟨o, j, rfl, hR, hF, hj, ho, hr⟩ := hrel
    clear H HR0
    have HF := Lib.hid hF
    have HM := Lib.hid (hR.atOf)
    by_cases hjs : j < s.size
    · have HE := Lib.hid (ended_no wr p s j hjs hs hR)
      rw [at_byte hjs, ari_cons] at hr
      have N1 := Lib.hid (fun b hb w (h : RM w p s j) => finds_one w p s j 40 b hjs hb hs h)
      have N2 := Lib.hid (fun b hb w (h : RM w p s j) => finds_one w p s j 41 b hjs hb hs h)
      have N3 := Lib.hid (fun b hb w (h : RM w p s j) => finds_two w p s j 41 41 b hjs hb hs h)
      clear hR hF
      by_cases h40 : s[j] = 40
      · rw [if_pos h40, lift_succ] at hr
        have N1 := Lib.hid (N1.out true (decide_eq_true h40))
        have HV := Lib.hid hr
        clear hr h40
        go_wp2_with (first | (go_at_call 20; (with_reducible refine HE.out.mono ?_); rintro e w1 ⟨rfl, hR, hF⟩; have HR1 := Lib.hid hR; have HG1 := Lib.hid (HF.out.trans hF); clear hR hF) | (go_at_call 31; (with_reducible refine (N1.out _ HR1.out).mono ?_); rintro e w2 ⟨rfl, hR, hF⟩; obtain ⟨c0, c1, f1⟩ := hR.cells; have HR2 := Lib.hid hR; have HG2 := Lib.hid (HG1.out.trans hF); clear hR hF))
        refine ⟨⟨o + 1, j + 1, rfl, HR2.out.one, HG2.out.setCell (p := ⟨p, 1, none⟩) (.inl rfl) _, hjs, by omega, HV.out⟩, ?_⟩
        rw [HR2.out.one.atOf, HM.out]; omega
      · rw [if_neg h40] at hr
        have N1 := Lib.hid (N1.out false (decide_eq_false h40))
        by_cases h41 : s[j] = 41
        · have N2 := Lib.hid (N2.out true (decide_eq_true h41))
          by_cases ho0 : 0 < o
          · rw [if_pos ⟨h41, ho0⟩, lift_succ] at hr
            have HV := Lib.hid hr
            clear hr h40 h41
            go_wp2_with (first | (go_at_call 20; (with_reducible refine HE.out.mono ?_); rintro e w1 ⟨rfl, hR, hF⟩; have HR1 := Lib.hid hR; have HG1 := Lib.hid (HF.out.trans hF); clear hR hF) | (go_at_call 31; (with_reducible refine (N1.out _ HR1.out).mono ?_); rintro e w2 ⟨rfl, hR, hF⟩; obtain ⟨c0, c1, f1⟩ := hR.cells; have HR2 := Lib.hid hR; have HG2 := Lib.hid (HG1.out.trans hF); clear hR hF) | (go_at_call 31; (with_reducible refine (N2.out _ HR2.out).mono ?_); rintro e w3 ⟨rfl, hR, hF⟩; obtain ⟨c0, c1, f1⟩ := hR.cells; have HR3 := Lib.hid hR; have HG3 := Lib.hid (HG2.out.trans hF); clear hR hF))
            refine ⟨⟨o - 1, j + 1, by congr 1; omega, HR3.out.one, HG3.out.setCell (p := ⟨p, 1, none⟩) (.inl rfl) _, hjs, by omega, HV.out⟩, ?_⟩
            rw [HR3.out.one.atOf, HM.out]; omega
          · rw [if_neg (fun h => ho0 h.2)] at hr
            obtain rfl : o = 0 := by omega
            by_cases h2 : (s.data.toList.drop (j + 1)).head? = some 41
            · rw [if_pos ⟨h41, h2⟩] at hr
              have hj2 : j + 1 < s.size := by
                refine Nat.lt_of_not_le fun hn => ?_
                rw [List.drop_eq_nil_of_le (by rw [size_len]; omega)] at h2
                simp at h2
              have N3 := Lib.hid (N3.out true (decide_eq_true ⟨h41, h2⟩))
              have HV := Lib.hid hr
              clear hr h40 h41 h2
              go_wp2_with (first | (go_at_call 20; (with_reducible refine HE.out.mono ?_); rintro e w1 ⟨rfl, hR, hF⟩; have HR1 := Lib.hid hR; have HG1 := Lib.hid (HF.out.trans hF); clear hR hF) | (go_at_call 31; (with_reducible refine (N1.out _ HR1.out).mono ?_); rintro e w2 ⟨rfl, hR, hF⟩; obtain ⟨c0, c1, f1⟩ := hR.cells; have HR2 := Lib.hid hR; have HG2 := Lib.hid (HG1.out.trans hF); clear hR hF) | (go_at_call 31; (with_reducible refine (N2.out _ HR2.out).mono ?_); rintro e w3 ⟨rfl, hR, hF⟩; obtain ⟨c0, c1, f1⟩ := hR.cells; have HR3 := Lib.hid hR; have HG3 := Lib.hid (HG2.out.trans hF); clear hR hF) | (go_at_call 31; (with_reducible refine (N3.out _ HR3.out).mono ?_); rintro e w4 ⟨rfl, hR, hF⟩; obtain ⟨c0, c1, f1⟩ := hR.cells; have HR4 := Lib.hid hR; have HG4 := Lib.hid (HG3.out.trans hF); clear hR hF))
              go_ret
              rw [← HV.out]
              exact ⟨rfl, HR4.out.two, HG4.out.setCell (p := ⟨p, 1, none⟩) (.inl rfl) _⟩
            · rw [if_neg (fun h => h2 h.2), lift_succ] at hr
              have N3 := Lib.hid (N3.out false (decide_eq_false (fun h => h2 h.2)))
              have HV := Lib.hid hr
              clear hr h40 h41 h2
              go_wp2_with (first | (go_at_call 20; (with_reducible refine HE.out.mono ?_); rintro e w1 ⟨rfl, hR, hF⟩; have HR1 := Lib.hid hR; have HG1 := Lib.hid (HF.out.trans hF); clear hR hF) | (go_at_call 31; (with_reducible refine (N1.out _ HR1.out).mono ?_); rintro e w2 ⟨rfl, hR, hF⟩; obtain ⟨c0, c1, f1⟩ := hR.cells; have HR2 := Lib.hid hR; have HG2 := Lib.hid (HG1.out.trans hF); clear hR hF) | (go_at_call 31; (with_reducible refine (N2.out _ HR2.out).mono ?_); rintro e w3 ⟨rfl, hR, hF⟩; obtain ⟨c0, c1, f1⟩ := hR.cells; have HR3 := Lib.hid hR; have HG3 := Lib.hid (HG2.out.trans hF); clear hR hF) | (go_at_call 31; (with_reducible refine (N3.out _ HR3.out).mono ?_); rintro e w4 ⟨rfl, hR, hF⟩; obtain ⟨c0, c1, f1⟩ := hR.cells; have HR4 := Lib.hid hR; have HG4 := Lib.hid (HG3.out.trans hF); clear hR hF))
              refine ⟨⟨0, j + 1, rfl, HR4.out.one, HG4.out.setCell (p := ⟨p, 1, none⟩) (.inl rfl) _, hjs, by omega, HV.out⟩, ?_⟩
              rw [HR4.out.one.atOf, HM.out]; omega
        · have N2 := Lib.hid (N2.out false (decide_eq_false h41))
          rw [if_neg (fun h => h41 h.1), if_neg (fun h => h41 h.1), lift_succ] at hr
          have N3 := Lib.hid (N3.out false (decide_eq_false (fun h => h41 h.1)))
          have HV := Lib.hid hr
          clear hr h40 h41
          go_wp2_with (first | (go_at_call 20; (with_reducible refine HE.out.mono ?_); rintro e w1 ⟨rfl, hR, hF⟩; have HR1 := Lib.hid hR; have HG1 := Lib.hid (HF.out.trans hF); clear hR hF) | (go_at_call 31; (with_reducible refine (N1.out _ HR1.out).mono ?_); rintro e w2 ⟨rfl, hR, hF⟩; obtain ⟨c0, c1, f1⟩ := hR.cells; have HR2 := Lib.hid hR; have HG2 := Lib.hid (HG1.out.trans hF); clear hR hF) | (go_at_call 31; (with_reducible refine (N2.out _ HR2.out).mono ?_); rintro e w3 ⟨rfl, hR, hF⟩; obtain ⟨c0, c1, f1⟩ := hR.cells; have HR3 := Lib.hid hR; have HG3 := Lib.hid (HG2.out.trans hF); clear hR hF) | (go_at_call 31; (with_reducible refine (N3.out _ HR3.out).mono ?_); rintro e w4 ⟨rfl, hR, hF⟩; obtain ⟨c0, c1, f1⟩ := hR.cells; have HR4 := Lib.hid hR; have HG4 := Lib.hid (HG3.out.trans hF); clear hR hF))
          refine ⟨⟨o, j + 1, rfl, HR4.out.one, HG4.out.setCell (p := ⟨p, 1, none⟩) (.inl rfl) _, hjs, by omega, HV.out⟩, ?_⟩
          rw [HR4.out.one.atOf, HM.out]; omega
    · obtain rfl : j = s.size := by omega
      have HE := Lib.hid (ended_yes wr p s hs hR)
      rw [List.drop_eq_nil_of_le (by rw [size_len]; omega), ari_nil] at hr
      clear hR hF
      subst hr
      go_wp2_with (go_at_call 20; (with_reducible refine HE.out.mono ?_); rintro e w1 ⟨rfl, hR, hF⟩; have HR1 := Lib.hid hR; have HG1 := Lib.hid (HF.out.trans hF); clear hR hF)
      go_ret
      exact ⟨rfl, HR1.out, HG1.out⟩
end Go.Proofs.Ytoahgblgchmclaa
