/- The document's reader: one. -/
import Derived.Test.YtbmnngliapmgfaaGreatDoorCR
namespace Go.Proofs.YtbmnngliapmgfaaGreatDoor
open Go.RowKit
set_option linter.unusedVariables false
set_option linter.unusedSimpArgs false
theorem drop_same {s : ByteArray} {i j : Nat} (hi : i ≤ s.size) (hj : j ≤ s.size) (h : s.data.toList.drop i = s.data.toList.drop j) : i = j := by
  have e := congrArg List.length h
  rw [List.length_drop, List.length_drop, size_len] at e
  omega
theorem one_cls {x : Bs} (h : Tk x) :
    (sgR x ∈ preL ∧ tokX x = sgR x :: tokX (x.drop 1) ∧ 1 ≤ x.length) ∨
    (sgR x = [40] ∧ tokX x = [40] :: tokX (x.drop 1) ∧ 1 ≤ x.length) ∨
    (sgR x = [] ∧ isN (wordB x) = true ∧ tokX x = wordB x :: tokX (x.drop (wordB x).length) ∧ (wordB x).length ≤ x.length) ∨
    (sgR x ∉ preL ∧ sgR x ≠ [40] ∧ isN (wordB x) = false ∧ (wordB x).length ≤ x.length ∧
      ((conP (wordB x) = (cstV (wordB x), true) ∧ isC (wordB x) = true ∧ tokX x = wordB x :: tokX (x.drop (wordB x).length)) ∨ (conP (wordB x) = (0, false) ∧ ∀ o, PR .un o (tokX x) none))) := by
  have hb : ∀ {l : Bs}, (conP l).2 = false → conP l = (0, false) := fun h => by
    have := conP_no h
    rcases hc : conP _ with ⟨a, b⟩
    rw [hc] at h this
    cases h; cases this; rfl
  rcases h with ⟨h, e, s, w⟩ | ⟨h, e, s, w, l, _⟩ | ⟨s, h, e, l⟩ | ⟨s, h, c, v, e, l⟩ | ⟨s, h, v, e, l⟩
  · refine .inr (.inr (.inr ⟨by rw [s]; decide, by rw [s]; decide, by rw [w]; rfl, by rw [w]; exact Nat.zero_le _, .inr ⟨hb (by rw [w]; rfl), fun o => by rw [e]; exact PR.un0 o⟩⟩))
  · by_cases hp : sgR x ∈ preL
    · have h1 : (sgR x).length = 1 := by
        have hall : ∀ u ∈ preL, u.length = 1 := by decide
        exact hall _ hp
      rw [h1] at e l
      exact .inl ⟨hp, e, l⟩
    · by_cases h4 : sgR x = [40]
      · rw [h4] at e l
        exact .inr (.inl ⟨h4, e, l⟩)
      · obtain ⟨q1, q2⟩ := sgn_head _ s
        refine .inr (.inr (.inr ⟨hp, h4, by rw [w]; rfl, by rw [w]; exact Nat.zero_le _, .inr ⟨hb (by rw [w]; rfl), fun o => by rw [e]; exact PR.un_no (by simpa using hp) h4 q1 q2⟩⟩))
  · exact .inr (.inr (.inl ⟨s, h, e, l⟩))
  · exact .inr (.inr (.inr ⟨by rw [s]; decide, by rw [s]; decide, h, l, .inl ⟨v, c, e⟩⟩))
  · exact .inr (.inr (.inr ⟨by rw [s]; decide, by rw [s]; decide, h, l, .inr ⟨hb v, fun o => by rw [e]; exact PR.un_no (by decide) (by decide) (by decide) (by decide)⟩⟩))
theorem bump_E (o : Own) (err : Int) (c : Bool) (e : Int) : bump (o, err) c e = (o, bumpE err c e) := by
  unfold bump bumpE
  split <;> rfl
theorem wrap_r (x : Int) : I64 (wrap64 x) := i64_wrap x
theorem I64_0 : I64 0 := ⟨by decide, by decide⟩
set_option maxHeartbeats 8000000 in
theorem rone_of {B p : Nat} {s : ByteArray} {gv : Value} {g : List (Bs × Bs)} {d : Nat} (hs : s.size ≤ 256) (hd : d ≤ 24)
    (hone : CC4 39 B p s gv g (d + 1) .un) (hset : CC4 9 B p s gv g (d + 1) .asg) : CC4 39 B p s gv g d .un := by
  intro W k sv o err c hI
  have H0 := Lib.hid hI
  have HS := Lib.hid hset
  have HN := Lib.hid hone
  have HO := Lib.hid (ropen_any W p s k d gv sv false err (by omega) hI.1)
  have hks := hI.2.2.2.2.2.2.1
  clear hI hset hone
  go_enter Tryz.func39, Tryz.ntmps39
  go_upto_region 2 with (first
    | (go_at_call 12; (with_reducible refine HO.out.mono ?_); rintro e w1 ⟨rfl, hR, hF⟩))
  rw [show (false || decide (24 < d)) = false by simp; omega] at hR
  obtain ⟨c0, c1, c2, c3, c4, c5, c6, fz⟩ := hR.cells
  have HI1 := Lib.hid (H0.out.step hF hR hks (Nat.le_refl _))
  have HF1 := Lib.hid hF
  have HSG := Lib.hid (rsign_any w1 p s k (d + 1) gv sv false err hks hs hR)
  clear hR hF c0 c1 c2 c3 c4 c6 fz HO
  go_upto_region 6 with (first
    | (go_at_call 15; (with_reducible refine HSG.out.mono ?_); rintro e w2 ⟨j, rfl, hR, hF, hkj, hj, ht⟩
       have HX := Lib.hid ht
       clear ht
       generalize hsg : sgR (s.data.toList.drop j) = sg
       have HSGX := Lib.hid hsg
       clear hsg))
  have HWD := Lib.hid (rword_any w2 p s j (d + 1) gv sv false err hj hs hR)
  have HI2 := Lib.hid (HI1.out.step hF hR hj hkj)
  have HF2 := Lib.hid hF
  clear hR hF c5 HSG
  go_upto_region 12 with (first
    | (go_at_call 13; (with_reducible refine HWD.out.mono ?_); rintro e w3 ⟨j3, rfl, hR, hF, hkj3, hj3, ht3⟩
       have HX3 := Lib.hid ht3
       clear ht3
       generalize hwd : wordB (s.data.toList.drop j3) = wd
       have HWDX := Lib.hid hwd
       clear hwd))
  obtain rfl : j3 = j := drop_same hj3 hj (by rw [HX3.out, HX.out, trim_trim])
  have HI3 := Lib.hid (HI2.out.step hF hR hj (Nat.le_refl _))
  have HF3 := Lib.hid ((HF1.out.trans HF2.out).trans hF)
  have HT := Lib.hid (show tokX (s.data.toList.drop k) = tokX (s.data.toList.drop j3) by rw [HX.out, tokX_trim])
  have hxx : trimB (s.data.toList.drop j3) = s.data.toList.drop j3 := by rw [HX.out, trim_trim]
  have HL := Lib.hid (show (s.data.toList.drop j3).length = s.size - j3 by rw [List.length_drop, size_len])
  have HTK := Lib.hid (tk_any hxx)
  clear hR hF hkj3 hxx HX3 HWD HX HI1 HI2 HF1 HF2 H0
  have HTK2 : Hid (sgR (s.data.toList.drop j3) = sg ∧ wordB (s.data.toList.drop j3) = wd) := Lib.hid ⟨HSGX.out, HWDX.out⟩
  clear HSGX HWDX
  have hcls := one_cls HTK.out
  rw [HTK2.out.1, HTK2.out.2, List.drop_drop, List.drop_drop, HL.out] at hcls
  clear HTK HTK2 HL
  have HI3s := HI3
  rcases hcls with ⟨h1, h2, h3⟩ | ⟨h1, h2, h3⟩ | ⟨h1, h2, h3, h4⟩ | ⟨h1, h2, h3, h4, h5⟩
  · unfold preL at h1
    simp only [List.mem_cons, List.not_mem_nil, or_false] at h1
    rcases h1 with rfl | rfl | rfl | rfl
    · have g0 : ((st [43]).toList == [43]) = true := by rw [st_dec]; decide
      have g1 : ((st [43]).toList == [45]) = false := by rw [st_dec]; decide
      have g2 : ((st [43]).toList == [126]) = false := by rw [st_dec]; decide
      have g3 : ((st [43]).toList == [33]) = false := by rw [st_dec]; decide
      have g4 : ((st [43]).toList == [40]) = false := by rw [st_dec]; decide
      have H2 := Lib.hid h2
      have HTR := Lib.hid rtruth_any
      have hsgn : IntKind.i64.signed = true := rfl
      clear h2
      generalize st [43] = y at *
      obtain ⟨c0, c1, c2, c3, c4, c5, c6, fz⟩ := HI3.out.1.cells
      have f1 := fz 1
      clear c0 c2 c3 c4 c5 c6 fz
      go_upto_region 14 with (fail)
      have HI5 := Lib.hid (HI3.out.step (Fr.one _ p 1 (.int .i64 ((j3 : Int) + 1))) (HI3.out.1.setAtI _ (j3 + 1) (by omega)) (by omega) (by omega))
      go_upto_region 15 with (first
        | (go_at_call 39; (with_reducible refine (HN.out _ _ _ _ _ _ HI5.out).mono ?_); rintro e w4 ⟨v, k4, d4, sv4, o4, form4, err4, R, rfl, hv, hI4, hF4, hk4, ho4, hP, hR⟩))
      have HV := Lib.hid hv
      have hk4s := hI4.2.2.2.2.2.2.1
      have HI4 := Lib.hid hI4
      have HF4 := Lib.hid hF4
      have HP := Lib.hid hP
      obtain ⟨c0, c1, c2, c3, c4, c5, c6, fz⟩ := hI4.1.cells
      have f2 := fz 2
      clear hv hI4 hF4 hP c0 c1 c3 c4 c5 c6 fz
      rcases R with _ | ⟨n, r⟩
      · obtain ⟨rfl, hd4, hd4'⟩ := hR
        obtain ⟨d8, rfl⟩ : ∃ d8, d4 = d8 + 1 := ⟨d4 - 1, by omega⟩
        go_wp2_with (first | (go_at_call 25; (with_reducible refine (HTR.out _ _).mono ?_); rintro e w' ⟨rfl, rfl⟩))
        go_ret
        refine ⟨_, k4, d8, sv4, o4, true, err4, none, rfl, HV.out, HI4.out.step (Fr.one _ _ _ _) (HI4.out.1.setDeepI _ d8 (by omega)) hk4s (Nat.le_refl _), (((HF3.out.trans (Fr.one _ _ _ _)).up.trans HF4.out).trans (Fr.one _ _ _ _).up), by omega, by omega, ?_, rfl, by omega, by omega⟩
        rw [HT.out, H2.out]
        exact PR.un_pre hd (by decide) HP.out
      · obtain ⟨rfl, rfl, hr, hev⟩ := hR
        have HR := Lib.hid hr
        have HE := Lib.hid hev
        clear hr hev
        go_wp2_with (first | (go_at_call 25; (with_reducible refine (HTR.out _ _).mono ?_); rintro e w' ⟨rfl, rfl⟩))
        go_ret
        refine ⟨_, k4, d, sv4, o4, false, err4, some (.pre [43] n, r), rfl, HV.out, HI4.out.step (Fr.one _ _ _ _) (HI4.out.1.setDeepI _ d (by omega)) hk4s (Nat.le_refl _), (((HF3.out.trans (Fr.one _ _ _ _)).up.trans HF4.out).trans (Fr.one _ _ _ _).up), by omega, by omega, ?_, rfl, rfl, HR.out, ?_⟩
        · rw [HT.out, H2.out]
          exact PR.un_pre hd (by decide) HP.out
        · rw [evC, HE.out]; rfl
    · have g0 : ((st [45]).toList == [43]) = false := by rw [st_dec]; decide
      have g1 : ((st [45]).toList == [45]) = true := by rw [st_dec]; decide
      have g2 : ((st [45]).toList == [126]) = false := by rw [st_dec]; decide
      have g3 : ((st [45]).toList == [33]) = false := by rw [st_dec]; decide
      have g4 : ((st [45]).toList == [40]) = false := by rw [st_dec]; decide
      have H2 := Lib.hid h2
      have HTR := Lib.hid rtruth_any
      have hsgn : IntKind.i64.signed = true := rfl
      clear h2
      generalize st [45] = y at *
      obtain ⟨c0, c1, c2, c3, c4, c5, c6, fz⟩ := HI3.out.1.cells
      have f1 := fz 1
      clear c0 c2 c3 c4 c5 c6 fz
      go_upto_region 14 with (fail)
      have HI5 := Lib.hid (HI3.out.step (Fr.one _ p 1 (.int .i64 ((j3 : Int) + 1))) (HI3.out.1.setAtI _ (j3 + 1) (by omega)) (by omega) (by omega))
      go_upto_region 15 with (first
        | (go_at_call 39; (with_reducible refine (HN.out _ _ _ _ _ _ HI5.out).mono ?_); rintro e w4 ⟨v, k4, d4, sv4, o4, form4, err4, R, rfl, hv, hI4, hF4, hk4, ho4, hP, hR⟩))
      have HV := Lib.hid hv
      have hk4s := hI4.2.2.2.2.2.2.1
      have HI4 := Lib.hid hI4
      have HF4 := Lib.hid hF4
      have HP := Lib.hid hP
      obtain ⟨c0, c1, c2, c3, c4, c5, c6, fz⟩ := hI4.1.cells
      have f2 := fz 2
      clear hv hI4 hF4 hP c0 c1 c3 c4 c5 c6 fz
      rcases R with _ | ⟨n, r⟩
      · obtain ⟨rfl, hd4, hd4'⟩ := hR
        obtain ⟨d8, rfl⟩ : ∃ d8, d4 = d8 + 1 := ⟨d4 - 1, by omega⟩
        go_wp2_with (first | (go_at_call 25; (with_reducible refine (HTR.out _ _).mono ?_); rintro e w' ⟨rfl, rfl⟩))
        go_ret
        refine ⟨_, k4, d8, sv4, o4, true, err4, none, rfl, i64_wrap _, HI4.out.step (Fr.one _ _ _ _) (HI4.out.1.setDeepI _ d8 (by omega)) hk4s (Nat.le_refl _), (((HF3.out.trans (Fr.one _ _ _ _)).up.trans HF4.out).trans (Fr.one _ _ _ _).up), by omega, by omega, ?_, rfl, by omega, by omega⟩
        rw [HT.out, H2.out]
        exact PR.un_pre hd (by decide) HP.out
      · obtain ⟨rfl, rfl, hr, hev⟩ := hR
        have HR := Lib.hid hr
        have HE := Lib.hid hev
        clear hr hev
        go_wp2_with (first | (go_at_call 25; (with_reducible refine (HTR.out _ _).mono ?_); rintro e w' ⟨rfl, rfl⟩))
        go_ret
        refine ⟨_, k4, d, sv4, o4, false, err4, some (.pre [45] n, r), rfl, i64_wrap _, HI4.out.step (Fr.one _ _ _ _) (HI4.out.1.setDeepI _ d (by omega)) hk4s (Nat.le_refl _), (((HF3.out.trans (Fr.one _ _ _ _)).up.trans HF4.out).trans (Fr.one _ _ _ _).up), by omega, by omega, ?_, rfl, rfl, HR.out, ?_⟩
        · rw [HT.out, H2.out]
          exact PR.un_pre hd (by decide) HP.out
        · rw [evC, HE.out]; rfl
    · have g0 : ((st [126]).toList == [43]) = false := by rw [st_dec]; decide
      have g1 : ((st [126]).toList == [45]) = false := by rw [st_dec]; decide
      have g2 : ((st [126]).toList == [126]) = true := by rw [st_dec]; decide
      have g3 : ((st [126]).toList == [33]) = false := by rw [st_dec]; decide
      have g4 : ((st [126]).toList == [40]) = false := by rw [st_dec]; decide
      have H2 := Lib.hid h2
      have HTR := Lib.hid rtruth_any
      have hsgn : IntKind.i64.signed = true := rfl
      clear h2
      generalize st [126] = y at *
      obtain ⟨c0, c1, c2, c3, c4, c5, c6, fz⟩ := HI3.out.1.cells
      have f1 := fz 1
      clear c0 c2 c3 c4 c5 c6 fz
      go_upto_region 14 with (fail)
      have HI5 := Lib.hid (HI3.out.step (Fr.one _ p 1 (.int .i64 ((j3 : Int) + 1))) (HI3.out.1.setAtI _ (j3 + 1) (by omega)) (by omega) (by omega))
      go_upto_region 15 with (first
        | (go_at_call 39; (with_reducible refine (HN.out _ _ _ _ _ _ HI5.out).mono ?_); rintro e w4 ⟨v, k4, d4, sv4, o4, form4, err4, R, rfl, hv, hI4, hF4, hk4, ho4, hP, hR⟩))
      have HV := Lib.hid hv
      have hk4s := hI4.2.2.2.2.2.2.1
      have HI4 := Lib.hid hI4
      have HF4 := Lib.hid hF4
      have HP := Lib.hid hP
      obtain ⟨c0, c1, c2, c3, c4, c5, c6, fz⟩ := hI4.1.cells
      have f2 := fz 2
      clear hv hI4 hF4 hP c0 c1 c3 c4 c5 c6 fz
      rcases R with _ | ⟨n, r⟩
      · obtain ⟨rfl, hd4, hd4'⟩ := hR
        obtain ⟨d8, rfl⟩ : ∃ d8, d4 = d8 + 1 := ⟨d4 - 1, by omega⟩
        go_wp2_with (first | (go_at_call 25; (with_reducible refine (HTR.out _ _).mono ?_); rintro e w' ⟨rfl, rfl⟩))
        go_ret
        refine ⟨_, k4, d8, sv4, o4, true, err4, none, rfl, i64_bits _ _ _, HI4.out.step (Fr.one _ _ _ _) (HI4.out.1.setDeepI _ d8 (by omega)) hk4s (Nat.le_refl _), (((HF3.out.trans (Fr.one _ _ _ _)).up.trans HF4.out).trans (Fr.one _ _ _ _).up), by omega, by omega, ?_, rfl, by omega, by omega⟩
        rw [HT.out, H2.out]
        exact PR.un_pre hd (by decide) HP.out
      · obtain ⟨rfl, rfl, hr, hev⟩ := hR
        have HR := Lib.hid hr
        have HE := Lib.hid hev
        clear hr hev
        go_wp2_with (first | (go_at_call 25; (with_reducible refine (HTR.out _ _).mono ?_); rintro e w' ⟨rfl, rfl⟩))
        go_ret
        refine ⟨_, k4, d, sv4, o4, false, err4, some (.pre [126] n, r), rfl, i64_bits _ _ _, HI4.out.step (Fr.one _ _ _ _) (HI4.out.1.setDeepI _ d (by omega)) hk4s (Nat.le_refl _), (((HF3.out.trans (Fr.one _ _ _ _)).up.trans HF4.out).trans (Fr.one _ _ _ _).up), by omega, by omega, ?_, rfl, rfl, HR.out, ?_⟩
        · rw [HT.out, H2.out]
          exact PR.un_pre hd (by decide) HP.out
        · rw [evC, HE.out]; rfl
    · have g0 : ((st [33]).toList == [43]) = false := by rw [st_dec]; decide
      have g1 : ((st [33]).toList == [45]) = false := by rw [st_dec]; decide
      have g2 : ((st [33]).toList == [126]) = false := by rw [st_dec]; decide
      have g3 : ((st [33]).toList == [33]) = true := by rw [st_dec]; decide
      have g4 : ((st [33]).toList == [40]) = false := by rw [st_dec]; decide
      have H2 := Lib.hid h2
      have HTR := Lib.hid rtruth_any
      have hsgn : IntKind.i64.signed = true := rfl
      clear h2
      generalize st [33] = y at *
      obtain ⟨c0, c1, c2, c3, c4, c5, c6, fz⟩ := HI3.out.1.cells
      have f1 := fz 1
      clear c0 c2 c3 c4 c5 c6 fz
      go_upto_region 14 with (fail)
      have HI5 := Lib.hid (HI3.out.step (Fr.one _ p 1 (.int .i64 ((j3 : Int) + 1))) (HI3.out.1.setAtI _ (j3 + 1) (by omega)) (by omega) (by omega))
      go_upto_region 15 with (first
        | (go_at_call 39; (with_reducible refine (HN.out _ _ _ _ _ _ HI5.out).mono ?_); rintro e w4 ⟨v, k4, d4, sv4, o4, form4, err4, R, rfl, hv, hI4, hF4, hk4, ho4, hP, hR⟩))
      have HV := Lib.hid hv
      have hk4s := hI4.2.2.2.2.2.2.1
      have HI4 := Lib.hid hI4
      have HF4 := Lib.hid hF4
      have HP := Lib.hid hP
      obtain ⟨c0, c1, c2, c3, c4, c5, c6, fz⟩ := hI4.1.cells
      have f2 := fz 2
      clear hv hI4 hF4 hP c0 c1 c3 c4 c5 c6 fz
      rcases R with _ | ⟨n, r⟩
      · obtain ⟨rfl, hd4, hd4'⟩ := hR
        obtain ⟨d8, rfl⟩ : ∃ d8, d4 = d8 + 1 := ⟨d4 - 1, by omega⟩
        go_wp2_with (first | (go_at_call 25; (with_reducible refine (HTR.out _ _).mono ?_); rintro e w' ⟨rfl, rfl⟩))
        go_ret
        refine ⟨_, k4, d8, sv4, o4, true, err4, none, rfl, i64_truth _, HI4.out.step (Fr.one _ _ _ _) (HI4.out.1.setDeepI _ d8 (by omega)) hk4s (Nat.le_refl _), (((HF3.out.trans (Fr.one _ _ _ _)).up.trans HF4.out).trans (Fr.one _ _ _ _).up), by omega, by omega, ?_, rfl, by omega, by omega⟩
        rw [HT.out, H2.out]
        exact PR.un_pre hd (by decide) HP.out
      · obtain ⟨rfl, rfl, hr, hev⟩ := hR
        have HR := Lib.hid hr
        have HE := Lib.hid hev
        clear hr hev
        go_wp2_with (first | (go_at_call 25; (with_reducible refine (HTR.out _ _).mono ?_); rintro e w' ⟨rfl, rfl⟩))
        go_ret
        refine ⟨_, k4, d, sv4, o4, false, err4, some (.pre [33] n, r), rfl, i64_truth _, HI4.out.step (Fr.one _ _ _ _) (HI4.out.1.setDeepI _ d (by omega)) hk4s (Nat.le_refl _), (((HF3.out.trans (Fr.one _ _ _ _)).up.trans HF4.out).trans (Fr.one _ _ _ _).up), by omega, by omega, ?_, rfl, rfl, HR.out, ?_⟩
        · rw [HT.out, H2.out]
          exact PR.un_pre hd (by decide) HP.out
        · rw [evC, HE.out]; rfl
  · subst h1
    have g0 : ((st [40]).toList == [43]) = false := by rw [st_dec]; decide
    have g1 : ((st [40]).toList == [45]) = false := by rw [st_dec]; decide
    have g2 : ((st [40]).toList == [126]) = false := by rw [st_dec]; decide
    have g3 : ((st [40]).toList == [33]) = false := by rw [st_dec]; decide
    have g4 : ((st [40]).toList == [40]) = true := by rw [st_dec]; decide
    have H2 := Lib.hid h2
    clear h2
    generalize st [40] = y at *
    obtain ⟨c0, c1, c2, c3, c4, c5, c6, fz⟩ := HI3.out.1.cells
    have f1 := fz 1
    clear c0 c2 c3 c4 c5 c6 fz
    go_upto_region 24 with (fail)
    have HI5 := Lib.hid (HI3.out.step (Fr.one _ p 1 (.int .i64 ((j3 : Int) + 1))) (HI3.out.1.setAtI _ (j3 + 1) (by omega)) (by omega) (by omega))
    go_upto_region 25 with (first
      | (go_at_call 9; (with_reducible refine (HS.out _ _ _ _ _ _ HI5.out).mono ?_); rintro e w4 ⟨v, k4, d4, sv4, o4, form4, err4, R, rfl, hv, hI4, hF4, hk4, ho4, hP, hR⟩))
    have HV := Lib.hid hv
    have hk4s := hI4.2.2.2.2.2.2.1
    have HI4 := Lib.hid hI4
    have HF4 := Lib.hid hF4
    have HP := Lib.hid hP
    have HT2 := Lib.hid (rtook_41 w4 p s k4 d4 gv sv4 form4 err4 hk4s hs hI4.1)
    clear hv hI4 hF4 hP
    go_upto_region 26 with (first
      | (go_at_call 29; (with_reducible refine HT2.out.mono ?_); rintro e w5 ⟨b5, j5, rfl, hR5, hF5, hkj5, hj5, hb⟩))
    have HB5 := Lib.hid hb
    have HI6 := Lib.hid (HI4.out.step hF5 hR5 hj5 hkj5)
    have HF5 := Lib.hid hF5
    clear HT2 hb hR5 hF5
    rcases R with _ | ⟨n, r⟩
    · obtain ⟨rfl, hd4, hd4'⟩ := hR
      obtain ⟨d8, rfl⟩ : ∃ d8, d4 = d8 + 1 := ⟨d4 - 1, by omega⟩
      cases b5 with
      | false =>
        obtain ⟨c0, c1, c2, c3, c4, c5, c6, fz⟩ := HI6.out.1.cells
        have f5 := fz 5
        clear c0 c1 c2 c3 c4 c6 fz
        go_upto_region 31 with (fail)
        have HI7 := Lib.hid (HI6.out.step (Fr.one _ p 5 (.bool true)) (HI6.out.1.setForm true) hj5 (Nat.le_refl _))
        obtain ⟨c0, c1, c2, c3, c4, c5, c6, fz⟩ := HI7.out.1.cells
        have f2 := fz 2
        clear c0 c1 c3 c4 c5 c6 fz
        go_wp2
        go_ret
        refine ⟨_, j5, d8, sv4, o4, true, err4, none, rfl, HV.out, HI7.out.step (Fr.one _ _ _ _) (HI7.out.1.setDeepI _ d8 (by omega)) hj5 (Nat.le_refl _), ((((((HF3.out.trans (Fr.one _ _ _ _)).up.trans HF4.out).trans HF5.out.up)).trans (Fr.one _ _ _ _).up).trans (Fr.one _ _ _ _).up), by omega, by omega, ?_, rfl, by omega, by omega⟩
        rw [HT.out, H2.out]
        exact PR.un_par hd HP.out
      | true =>
        have HI7 := HI6
        obtain ⟨c0, c1, c2, c3, c4, c5, c6, fz⟩ := HI7.out.1.cells
        have f2 := fz 2
        clear c0 c1 c3 c4 c5 c6 fz
        go_wp2
        go_ret
        refine ⟨_, j5, d8, sv4, o4, true, err4, none, rfl, HV.out, HI7.out.step (Fr.one _ _ _ _) (HI7.out.1.setDeepI _ d8 (by omega)) hj5 (Nat.le_refl _), (((((HF3.out.trans (Fr.one _ _ _ _)).up.trans HF4.out).trans HF5.out.up)).trans (Fr.one _ _ _ _).up), by omega, by omega, ?_, rfl, by omega, by omega⟩
        rw [HT.out, H2.out]
        exact PR.un_par hd HP.out
    · obtain ⟨rfl, rfl, hr, hev⟩ := hR
      have HR := Lib.hid hr
      have HE := Lib.hid hev
      clear hr hev
      cases b5 with
      | false =>
        obtain ⟨c0, c1, c2, c3, c4, c5, c6, fz⟩ := HI6.out.1.cells
        have f5 := fz 5
        clear c0 c1 c2 c3 c4 c6 fz
        go_upto_region 31 with (fail)
        have HI7 := Lib.hid (HI6.out.step (Fr.one _ p 5 (.bool true)) (HI6.out.1.setForm true) hj5 (Nat.le_refl _))
        obtain ⟨c0, c1, c2, c3, c4, c5, c6, fz⟩ := HI7.out.1.cells
        have f2 := fz 2
        clear c0 c1 c3 c4 c5 c6 fz
        go_wp2
        go_ret
        refine ⟨_, j5, d, sv4, o4, true, err4, none, rfl, HV.out, HI7.out.step (Fr.one _ _ _ _) (HI7.out.1.setDeepI _ d (by omega)) hj5 (Nat.le_refl _), ((((((HF3.out.trans (Fr.one _ _ _ _)).up.trans HF4.out).trans HF5.out.up)).trans (Fr.one _ _ _ _).up).trans (Fr.one _ _ _ _).up), by omega, by omega, ?_, rfl, by omega, by omega⟩
        rw [HT.out, H2.out]
        have q := PR.un_par hd HP.out
        rw [Option.bind_some, if_neg] at q
        · exact q
        · obtain ⟨q1, _⟩ | ⟨_, q1, _⟩ := HB5.out
          · cases q1
          · rw [← HR.out]; exact q1
      | true =>
        obtain rfl : r = [41] :: tokX (s.data.toList.drop j5) := by
          obtain ⟨_, q⟩ | ⟨q, _⟩ := HB5.out
          · rw [← HR.out, q]
          · cases q
        have HI7 := HI6
        obtain ⟨c0, c1, c2, c3, c4, c5, c6, fz⟩ := HI7.out.1.cells
        have f2 := fz 2
        clear c0 c1 c3 c4 c5 c6 fz
        go_wp2
        go_ret
        refine ⟨_, j5, d, sv4, o4, false, err4, some (n, tokX (s.data.toList.drop j5)), rfl, HV.out, HI7.out.step (Fr.one _ _ _ _) (HI7.out.1.setDeepI _ d (by omega)) hj5 (Nat.le_refl _), (((((HF3.out.trans (Fr.one _ _ _ _)).up.trans HF4.out).trans HF5.out.up)).trans (Fr.one _ _ _ _).up), by omega, by omega, ?_, rfl, rfl, rfl, HE.out⟩
        rw [HT.out, H2.out]
        exact PR.un_par hd HP.out
  · subst h1
    have g1 : ((st []).toList == [43]) = false := by rw [st_dec]; decide
    have g2 : ((st []).toList == [45]) = false := by rw [st_dec]; decide
    have g3 : ((st []).toList == [126]) = false := by rw [st_dec]; decide
    have g4 : ((st []).toList == [33]) = false := by rw [st_dec]; decide
    have g5 : ((st []).toList == [40]) = false := by rw [st_dec]; decide
    have hzs := st_size wd
    have HZD := Lib.hid (st_data wd)
    have hz4 : j3 + (st wd).size ≤ s.size := by omega
    have hz0 : 0 < (st wd).size := by
      rw [hzs]
      cases wd with
      | nil => cases h2
      | cons a b => simp
    have g6 : ((st wd).toList == []) = decide ((st wd).size = 0) := by rw [st_dec, hzs]; simp
    have g7 : decide ((st wd).size = 0) = false := decide_eq_false (by omega)
    have g9 : ¬ st wd = ByteArray.empty := fun e => by rw [e] at hz0; exact absurd hz0 (by decide)
    have g8 : isLt (st wd)[0] = true := by
      obtain ⟨q, hq⟩ := head_byte hz0
      rw [HZD.out] at hq
      rw [hq] at h2
      exact h2
    have HNM := Lib.hid (fun (W : World) (hI : IV W B p s (j3 + (st wd).size) (d + 1) gv g sv o false err) => rname_any W B p s _ _ gv sv g o false err wd c hI.2.1 hI.2.2.2.1 hI.2.2.2.2.1 hI.2.2.2.2.2.1 hI.1)
    have H2 := Lib.hid h2
    have H3 := Lib.hid h3
    have HSZ := Lib.hid hzs
    clear h2 h3 h4 hzs HZD
    generalize st [] = y at *
    generalize st wd = z at *
    obtain ⟨c0, c1, c2, c3, c4, c5, c6, fz⟩ := HI3.out.1.cells
    have f1 := fz 1
    clear c0 c2 c3 c4 c5 c6 fz
    go_upto_region 30 with (first
      | (go_at_call 14; (with_reducible refine (rletter_any _ _).mono ?_); rintro e w' ⟨rfl, rfl⟩))
    have HI5 := Lib.hid (HI3.out.step (Fr.one _ p 1 (.int .i64 ((j3 : Int) + (z.size : Int)))) (HI3.out.1.setAtI _ (j3 + z.size) (by omega)) (by omega) (by omega))
    go_upto_region 31 with (first
      | (go_at_call 17; (with_reducible refine (HNM.out _ HI5.out).mono ?_); rintro e w4 ⟨rfl, hR, hF⟩))

    have HI6 := Lib.hid (HI5.out.step hF hR (by omega) (Nat.le_refl _))
    have HF6 := Lib.hid hF
    obtain ⟨c0, c1, c2, c3, c4, c5, c6, fz⟩ := hR.cells
    have f2 := fz 2
    clear c0 c1 c3 c4 c5 c6 fz hR hF
    go_wp2
    go_ret
    refine ⟨_, j3 + z.size, d, sv, o, false, _, some (.nam wd, tokX (s.data.toList.drop (j3 + wd.length))), rfl, i64_getV _ HI3.out.2.2.2.2.2.1, HI6.out.step (Fr.one _ _ _ _) (HI6.out.1.setDeepI _ d (by omega)) (by omega) (Nat.le_refl _), (((HF3.out.trans (Fr.one _ _ _ _)).trans HF6.out).trans (Fr.one _ _ _ _)).up, by omega, by omega, ?_, rfl, rfl, by rw [HSZ.out], ?_⟩
    · rw [HT.out, H3.out]
      exact PR.un_name hd H2.out
    · rw [evC, bump_E]
  · have g1 : ((st sg).toList == [43]) = false := by rw [st_dec]; simp; rintro rfl; exact h1 (by decide)
    have g2 : ((st sg).toList == [45]) = false := by rw [st_dec]; simp; rintro rfl; exact h1 (by decide)
    have g3 : ((st sg).toList == [126]) = false := by rw [st_dec]; simp; rintro rfl; exact h1 (by decide)
    have g4 : ((st sg).toList == [33]) = false := by rw [st_dec]; simp; rintro rfl; exact h1 (by decide)
    have g5 : ((st sg).toList == [40]) = false := by rw [st_dec]; simp; exact h2
    have hzs := st_size wd
    have HZD := Lib.hid (st_data wd)
    have hz4 : j3 + (st wd).size ≤ s.size := by omega
    have g6 : ((st wd).toList == []) = decide ((st wd).size = 0) := by rw [st_dec, hzs]; simp
    obtain ⟨V, ok, hVK⟩ : ∃ V ok, conP wd = (V, ok) := ⟨_, _, rfl⟩
    have HCN := Lib.hid (fun w => rConstant_any (st wd) (by unfold maxLen; omega) w)
    rw [HZD.out, hVK] at HCN
    have HV : Hid (I64 V) := Lib.hid (by
      rcases h5 with ⟨q, _, _⟩ | ⟨q, _⟩
      · rw [hVK] at q; cases q; exact wrap_r _
      · rw [hVK] at q; cases q; exact I64_0)
    have HB0 : Hid (∀ h : 0 < (st wd).size, isLt (st wd)[0] = false) := Lib.hid (fun h => by
      obtain ⟨q, hq⟩ := head_byte h
      rw [HZD.out] at hq
      rw [hq] at h3
      exact h3)
    have H5 := Lib.hid h5
    have HK := Lib.hid hVK
    clear h5 h1 h2 h3 h4 hVK
    have HSZ := Lib.hid hzs
    clear hzs
    generalize st sg = y at *
    generalize st wd = z at *
    by_cases hz0 : 0 < z.size
    · have g7 : decide (z.size = 0) = false := decide_eq_false (by omega)
      have g8 := HB0.out hz0
      have g9 : ¬ z = ByteArray.empty := fun e => by rw [e] at hz0; exact absurd hz0 (by decide)
      go_upto_region 8 with (first
        | (go_at_call 14; (with_reducible refine (rletter_any _ _).mono ?_); rintro e w' ⟨rfl, rfl⟩)
        | (go_at_call 26; (with_reducible refine (HCN.out _).mono ?_); rintro e w' ⟨rfl, rfl⟩))
      cases ok with
      | true =>
        obtain ⟨c0, c1, c2, c3, c4, c5, c6, fz⟩ := HI3.out.1.cells
        have f1 := fz 1
        clear c0 c2 c3 c4 c5 c6 fz
        go_upto_region 31 with (fail)
        have HI5 := Lib.hid (HI3.out.step (Fr.one _ p 1 (.int .i64 ((j3 : Int) + (z.size : Int)))) (HI3.out.1.setAtI _ (j3 + z.size) (by omega)) (by omega) (by omega))
        obtain ⟨c0, c1, c2, c3, c4, c5, c6, fz⟩ := HI5.out.1.cells
        have f2 := fz 2
        clear c0 c1 c3 c4 c5 c6 fz
        go_wp2
        go_ret
        rcases H5.out with ⟨q1, q2, q3⟩ | ⟨q1, _⟩
        · rw [HK.out] at q1
          cases q1
          refine ⟨_, j3 + z.size, d, sv, o, false, err, some (.num (cstV wd), tokX (s.data.toList.drop (j3 + wd.length))), rfl, HV.out, HI5.out.step (Fr.one _ _ _ _) (HI5.out.1.setDeepI _ d (by omega)) (by omega) (Nat.le_refl _), ((HF3.out.trans (Fr.one _ _ _ _)).trans (Fr.one _ _ _ _)).up, by omega, by omega, ?_, rfl, rfl, by rw [HSZ.out], rfl⟩
          rw [HT.out, q3]
          exact PR.un_cst hd q2
        · rw [HK.out] at q1
          cases q1
      | false =>
        obtain ⟨c0, c1, c2, c3, c4, c5, c6, fz⟩ := HI3.out.1.cells
        have f5 := fz 5
        clear c0 c1 c2 c3 c4 c6 fz
        go_upto_region 10 with (fail)
        have HI4 := Lib.hid (HI3.out.step (Fr.one _ p 5 (.bool true)) (HI3.out.1.setForm true) hj (Nat.le_refl _))
        obtain ⟨c0, c1, c2, c3, c4, c5, c6, fz⟩ := HI4.out.1.cells
        have f1 := fz 1
        clear c0 c2 c3 c4 c5 c6 fz
        go_upto_region 31 with (fail)
        have HI5 := Lib.hid (HI4.out.step (Fr.one _ p 1 (.int .i64 ((j3 : Int) + (z.size : Int)))) (HI4.out.1.setAtI _ (j3 + z.size) (by omega)) (by omega) (by omega))
        obtain ⟨c0, c1, c2, c3, c4, c5, c6, fz⟩ := HI5.out.1.cells
        have f2 := fz 2
        clear c0 c1 c3 c4 c5 c6 fz
        go_wp2
        go_ret
        rcases H5.out with ⟨q1, q2, q3⟩ | ⟨q1, q2⟩
        · rw [HK.out] at q1
          cases q1
        · refine ⟨_, j3 + z.size, d, sv, o, true, err, none, rfl, HV.out, HI5.out.step (Fr.one _ _ _ _) (HI5.out.1.setDeepI _ d (by omega)) (by omega) (Nat.le_refl _), (((HF3.out.trans (Fr.one _ _ _ _)).trans (Fr.one _ _ _ _)).trans (Fr.one _ _ _ _)).up, by omega, by omega, ?_, rfl, by omega, by omega⟩
          rw [HT.out]
          exact q2 d
    · obtain rfl : z = ByteArray.empty := by apply ByteArray.ext; apply Array.eq_empty_of_size_eq_zero; have : z.size = z.data.size := rfl; omega
      go_upto_region 8 with (first
        | (go_at_call 14; (with_reducible refine (rletter_any _ _).mono ?_); rintro e w' ⟨rfl, rfl⟩)
        | (go_at_call 26; (with_reducible refine (HCN.out _).mono ?_); rintro e w' ⟨rfl, rfl⟩))
      cases ok with
      | true =>
        obtain ⟨c0, c1, c2, c3, c4, c5, c6, fz⟩ := HI3.out.1.cells
        have f1 := fz 1
        clear c0 c2 c3 c4 c5 c6 fz
        go_upto_region 31 with (fail)
        have HI5 := Lib.hid (HI3.out.step (Fr.one _ p 1 (.int .i64 (j3 : Int))) (HI3.out.1.setAtI _ j3 (by omega)) (by omega) (by omega))
        obtain ⟨c0, c1, c2, c3, c4, c5, c6, fz⟩ := HI5.out.1.cells
        have f2 := fz 2
        clear c0 c1 c3 c4 c5 c6 fz
        go_wp2
        go_ret
        rcases H5.out with ⟨q1, q2, q3⟩ | ⟨q1, _⟩
        · rw [HK.out] at q1
          cases q1
          refine ⟨_, j3, d, sv, o, false, err, some (.num (cstV wd), tokX (s.data.toList.drop (j3 + wd.length))), rfl, HV.out, HI5.out.step (Fr.one _ _ _ _) (HI5.out.1.setDeepI _ d (by omega)) (by omega) (Nat.le_refl _), ((HF3.out.trans (Fr.one _ _ _ _)).trans (Fr.one _ _ _ _)).up, by omega, by omega, ?_, rfl, rfl, by rw [← HSZ.out]; rfl, rfl⟩
          rw [HT.out, q3]
          exact PR.un_cst hd q2
        · rw [HK.out] at q1
          cases q1
      | false =>
        obtain ⟨c0, c1, c2, c3, c4, c5, c6, fz⟩ := HI3.out.1.cells
        have f5 := fz 5
        clear c0 c1 c2 c3 c4 c6 fz
        go_upto_region 10 with (fail)
        have HI4 := Lib.hid (HI3.out.step (Fr.one _ p 5 (.bool true)) (HI3.out.1.setForm true) hj (Nat.le_refl _))
        obtain ⟨c0, c1, c2, c3, c4, c5, c6, fz⟩ := HI4.out.1.cells
        have f1 := fz 1
        clear c0 c2 c3 c4 c5 c6 fz
        go_upto_region 31 with (fail)
        have HI5 := Lib.hid (HI4.out.step (Fr.one _ p 1 (.int .i64 (j3 : Int))) (HI4.out.1.setAtI _ j3 (by omega)) (by omega) (by omega))
        obtain ⟨c0, c1, c2, c3, c4, c5, c6, fz⟩ := HI5.out.1.cells
        have f2 := fz 2
        clear c0 c1 c3 c4 c5 c6 fz
        go_wp2
        go_ret
        rcases H5.out with ⟨q1, q2, q3⟩ | ⟨q1, q2⟩
        · rw [HK.out] at q1
          cases q1
        · refine ⟨_, j3, d, sv, o, true, err, none, rfl, HV.out, HI5.out.step (Fr.one _ _ _ _) (HI5.out.1.setDeepI _ d (by omega)) (by omega) (Nat.le_refl _), (((HF3.out.trans (Fr.one _ _ _ _)).trans (Fr.one _ _ _ _)).trans (Fr.one _ _ _ _)).up, by omega, by omega, ?_, rfl, by omega, by omega⟩
          rw [HT.out]
          exact q2 d
end Go.Proofs.YtbmnngliapmgfaaGreatDoor
