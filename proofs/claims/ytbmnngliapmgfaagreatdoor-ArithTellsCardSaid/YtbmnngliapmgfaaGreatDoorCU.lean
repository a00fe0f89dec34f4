/- The document's reader: sets. -/
import Derived.Test.YtbmnngliapmgfaaGreatDoorCT
namespace Go.Proofs.YtbmnngliapmgfaaGreatDoor
open Go.RowKit
set_option linter.unusedVariables false
set_option linter.unusedSimpArgs false
theorem asg_sgn : ∀ t, isAsg t = true → isSgn t = true ∧ isN t = false ∧ isC t = false ∧ t ≠ mark ∧ t ≠ [] := by
  have hall : ∀ u ∈ assignL, isSgn u = true ∧ isN u = false ∧ isC u = false ∧ u ≠ mark ∧ u ≠ [] := by decide
  intro t h
  exact hall t (by unfold isAsg at h; simpa using h)
/-- the first token is a name just where the word is. -/
theorem head_name {x : Bs} (hx : trimB x = x) {a : Bs} {r : List Bs} (h : tokX x = a :: r) (ha : isN a = true) : isN (wordB x) = true := by
  rcases tk_any hx with ⟨_, e, _, _⟩ | ⟨q, e, q2, _, _, _⟩ | ⟨_, q, e, _⟩ | ⟨_, _, q, _, e, _⟩ | ⟨_, _, _, e, _⟩
  · rw [e] at h; cases h
  · rw [e] at h; cases h; rw [(sgn_head _ q2).2] at ha; cases ha
  · exact q
  · rw [e] at h; cases h; rw [isN_C ha] at q; cases q
  · rw [e] at h; cases h; exact absurd ha (by decide)
theorem name_tok {x : Bs} (hx : trimB x = x) (h : isN (wordB x) = true) : sgR x = [] ∧ tokX x = wordB x :: tokX (x.drop (wordB x).length) ∧ (wordB x).length ≤ x.length := by
  rcases tk_any hx with ⟨_, _, _, w⟩ | ⟨_, _, _, w, _, _⟩ | ⟨q, _, e, l⟩ | ⟨_, q, _, _, _, _⟩ | ⟨_, q, _, _, _⟩
  · rw [w] at h; cases h
  · rw [w] at h; cases h
  · exact ⟨q, e, l⟩
  · rw [h] at q; cases q
  · rw [h] at q; cases q
theorem head_asg {x : Bs} (hx : trimB x = x) {a : Bs} {r : List Bs} (h : tokX x = a :: r) (ha : isAsg a = true) : sgR x = a := by
  obtain ⟨q1, q2, q3, q4, q5⟩ := asg_sgn a ha
  exact (head_sg hx a q5 q1).1 (by rw [h]; rfl)
theorem RR.lift {g : List (Bs × Bs)} {d d' : Nat} {r' : List Bs} {o : Own} {err : Int} {c : Bool} {v : Int} {o' : Own} {form' : Bool} {err' : Int} {R : Option (Nd × List Bs)} (h : RR g (d + 1) d' r' o err c v o' form' err' R) : d ≤ 24 → ∃ d9, d' = d9 + 1 ∧ d9 ≤ 60 := by
  intro hd
  rcases R with _ | ⟨n, r⟩
  · obtain ⟨_, h1, _⟩ := h
    exact ⟨d' - 1, by omega, by omega⟩
  · obtain ⟨_, h1, _⟩ := h
    exact ⟨d, h1, by omega⟩
/-- what is set, at the end. -/
theorem sets_end {W w' : World} {B p : Nat} {s : ByteArray} {k k7 k8 d d9 : Nat} {gv sv' : Value} {g : List (Bs × Bs)} {o o8 o' : Own} {err err8 err' : Int} {c form8 : Bool} {v v2 : Int} {wd u : Bs} {R : Option (Nd × List Bs)}
    (hd : d ≤ 24) (hn : isN wd = true) (hu : isAsg u = true) (hT : tokX (s.data.toList.drop k) = wd :: u :: tokX (s.data.toList.drop k7))
    (hP : PR .asg (d + 1) (tokX (s.data.toList.drop k7)) R) (hR : RR g (d + 1) (d9 + 1) (tokX (s.data.toList.drop k8)) o err c v o8 form8 err8 R)
    (hF : Fr (fun q => p ≤ q) W w') (hV : I64 v2) (hI : IV w' B p s k8 d9 gv g sv' o' form8 err') (hk : k ≤ k8) (ho : o'.length + k ≤ o.length + k8)
    (hev : ∀ n, evC g n (o, err) c = (v, (o8, err8)) → evC g (.asg wd u.dropLast n) (o, err) c = (v2, (o', err'))) :
    rdPost W B p s k d gv g o err c .asg (.returned (.int .i64 v2)) w' := by
  refine ⟨v2, k8, d9, sv', o', form8, err', R.map fun x => (.asg wd u.dropLast x.1, x.2), rfl, hV, hI, hF, hk, ho, by rw [hT]; exact PR.asg_set hd (by rw [hn, hu]; rfl) hP, ?_⟩
  rcases R with _ | ⟨n, r⟩
  · obtain ⟨h1, h2, h3⟩ := hR
    exact ⟨h1, by omega, by omega⟩
  · obtain ⟨h1, h2, h3, h4⟩ := hR
    exact ⟨h1, by omega, h3, hev n h4⟩
theorem IV.stored {w w' : World} {B p : Nat} {s : ByteArray} {k d : Nat} {gv : Value} {g : List (Bs × Bs)} {sv sv' : Value} {o : Own} {form : Bool} {err : Int} {n : Bs} {v : Int} (h : IV w B p s k d gv g sv o form err) (hv : I64 v) (hl : o.length + 1 ≤ k) (hR : RD w' p s k d gv sv' form err) (hS : SetR w' (p + 1) sv' (setV o n v)) (hF : Fr (fun q => p ≤ q) w w') : IV w' B p s k d gv g sv' (setV o n v) form err := by
  obtain ⟨h1, h2, h3, h4, h5, h6, h7, h8⟩ := h
  have := setV_len o n v
  exact ⟨hR, h2.fr hF (fun q hq e => by omega), h3, hS, h5.set n v, i64_setV o n v hv h6, h7, by omega⟩
set_option maxRecDepth 100000 in
set_option maxHeartbeats 16000000 in
theorem rsets_of {B p : Nat} {s : ByteArray} {gv : Value} {g : List (Bs × Bs)} {d : Nat} (hs : s.size ≤ 256) (hd : d ≤ 24)
    (hset : CC4 9 B p s gv g (d + 1) .asg) (hcho : CC4 19 B p s gv g (d + 1) .cho) : CC4 9 B p s gv g d .asg := by
  intro W k sv o err c hI
  have H0 := Lib.hid hI
  have HS := Lib.hid hset
  have HC := Lib.hid hcho
  have HO := Lib.hid (ropen_any W p s k d gv sv false err (by omega) hI.1)
  have hks := hI.2.2.2.2.2.2.1
  have H0L := Lib.hid hI.2.2.2.2.2.2.2
  clear hI hset hcho
  go_enter Tryz.func9, Tryz.ntmps9
  go_upto_region 2 with (first
    | (go_at_call 12; (with_reducible refine HO.out.mono ?_); rintro e w1 ⟨rfl, hR, hF⟩))
  rw [show (false || decide (24 < d)) = false by simp; omega] at hR
  obtain ⟨c0, c1, c2, c3, c4, c5, c6, fz⟩ := hR.cells
  have HI1 := Lib.hid (H0.out.step hF hR hks (Nat.le_refl _))
  have HF1 := Lib.hid hF
  have HWD := Lib.hid (rword_any w1 p s k (d + 1) gv sv false err hks hs hR)
  clear hR hF c0 c1 c2 c3 c4 c6 fz HO
  go_upto_region 5 with (first
    | (go_at_call 13; (with_reducible refine HWD.out.mono ?_); rintro e w3 ⟨j, rfl, hR, hF, hkj, hj, ht⟩
       have HX := Lib.hid ht
       clear ht
       generalize hwd : wordB (s.data.toList.drop j) = wd
       have HWDX := Lib.hid hwd
       clear hwd))
  have HI3 := Lib.hid (HI1.out.step hF hR hj hkj)
  have HF3 := Lib.hid (HF1.out.trans hF)
  have HT := Lib.hid (show tokX (s.data.toList.drop k) = tokX (s.data.toList.drop j) by rw [HX.out, tokX_trim])
  have hxx : trimB (s.data.toList.drop j) = s.data.toList.drop j := by rw [HX.out, trim_trim]
  have HXX := Lib.hid hxx
  have hzs := st_size wd
  have HZD := Lib.hid (st_data wd)
  clear hR hF hxx HWD HX HI1 HF1 H0 c5
  have g6 : ((st wd).toList == []) = decide ((st wd).size = 0) := by rw [st_dec, hzs]; simp
  cases hnm : isN wd with
  | false =>
    have HN := Lib.hid hnm
    have HB0 : Hid (∀ h : 0 < (st wd).size, isLt (st wd)[0] = false) := Lib.hid (fun h => by
      obtain ⟨q, hq⟩ := head_byte h
      rw [HZD.out] at hq
      rw [hq] at hnm
      exact hnm)
    clear hnm hzs HZD
    generalize hz : st wd = z at *
    have HZ := Lib.hid hz
    clear hz
    by_cases hz0 : 0 < z.size
    · have g7 : decide (z.size = 0) = false := decide_eq_false (by omega)
      have g8 := HB0.out hz0
      have g9 : ¬ z = ByteArray.empty := fun e => by rw [e] at hz0; exact absurd hz0 (by decide)
      have HCC := Lib.hid (HC.out _ _ _ _ _ c HI3.out)
      go_upto_region 21 with (first
        | (go_at_call 14; (with_reducible refine (rletter_any _ _).mono ?_); rintro e w' ⟨rfl, rfl⟩)
        | (go_at_call 19; (with_reducible refine HCC.out.mono ?_); rintro e w4 ⟨v, k4, d4, sv4, o4, form4, err4, R, rfl, hv, hI4, hF4, hk4, ho4, hP, hR⟩))
      have HV := Lib.hid hv
      have hk4s := hI4.2.2.2.2.2.2.1
      have HI4 := Lib.hid hI4
      have HF4 := Lib.hid hF4
      have HP := Lib.hid hP
      obtain ⟨c0, c1, c2, c3, c4, c5, c6, fz⟩ := hI4.1.cells
      have f2 := fz 2
      clear hv hI4 hF4 hP c0 c1 c3 c4 c5 c6 fz
      have HPA : Hid (PR .asg d (tokX (s.data.toList.drop k)) R) := Lib.hid (by rw [HT.out]; exact PR.asg_cho hd (by intro a b r e; cases hq : isN a with
        | false => rfl
        | true => have := head_name HXX.out e hq; rw [HWDX.out, HN.out] at this; cases this) HP.out)
      rcases R with _ | ⟨n, r⟩
      · obtain ⟨rfl, hd4, hd4'⟩ := hR
        obtain ⟨d8, rfl⟩ : ∃ d8, d4 = d8 + 1 := ⟨d4 - 1, by omega⟩
        go_wp2
        go_ret
        exact ⟨v, k4, d8, sv4, o4, true, err4, none, rfl, HV.out, HI4.out.step (Fr.one _ _ _ _) (HI4.out.1.setDeepI _ d8 (by omega)) hk4s (Nat.le_refl _), (HF3.out.up.trans HF4.out).trans (Fr.one _ _ _ _).up, by omega, by omega, HPA.out, rfl, by omega, by omega⟩
      · obtain ⟨rfl, rfl, hr, hev⟩ := hR
        have HR := Lib.hid hr
        have HE := Lib.hid hev
        clear hr hev
        go_wp2
        go_ret
        exact ⟨v, k4, d, sv4, o4, false, err4, some (n, r), rfl, HV.out, HI4.out.step (Fr.one _ _ _ _) (HI4.out.1.setDeepI _ d (by omega)) hk4s (Nat.le_refl _), (HF3.out.up.trans HF4.out).trans (Fr.one _ _ _ _).up, by omega, by omega, HPA.out, rfl, rfl, HR.out, HE.out⟩
    · obtain rfl : z = ByteArray.empty := by apply ByteArray.ext; apply Array.eq_empty_of_size_eq_zero; have : z.size = z.data.size := rfl; omega
      have HCC := Lib.hid (HC.out _ _ _ _ _ c HI3.out)
      go_upto_region 21 with (first
        | (go_at_call 14; (with_reducible refine (rletter_any _ _).mono ?_); rintro e w' ⟨rfl, rfl⟩)
        | (go_at_call 19; (with_reducible refine HCC.out.mono ?_); rintro e w4 ⟨v, k4, d4, sv4, o4, form4, err4, R, rfl, hv, hI4, hF4, hk4, ho4, hP, hR⟩))
      have HV := Lib.hid hv
      have hk4s := hI4.2.2.2.2.2.2.1
      have HI4 := Lib.hid hI4
      have HF4 := Lib.hid hF4
      have HP := Lib.hid hP
      obtain ⟨c0, c1, c2, c3, c4, c5, c6, fz⟩ := hI4.1.cells
      have f2 := fz 2
      clear hv hI4 hF4 hP c0 c1 c3 c4 c5 c6 fz
      have HPA : Hid (PR .asg d (tokX (s.data.toList.drop k)) R) := Lib.hid (by rw [HT.out]; exact PR.asg_cho hd (by intro a b r e; cases hq : isN a with
        | false => rfl
        | true => have := head_name HXX.out e hq; rw [HWDX.out, HN.out] at this; cases this) HP.out)
      rcases R with _ | ⟨n, r⟩
      · obtain ⟨rfl, hd4, hd4'⟩ := hR
        obtain ⟨d8, rfl⟩ : ∃ d8, d4 = d8 + 1 := ⟨d4 - 1, by omega⟩
        go_wp2
        go_ret
        exact ⟨v, k4, d8, sv4, o4, true, err4, none, rfl, HV.out, HI4.out.step (Fr.one _ _ _ _) (HI4.out.1.setDeepI _ d8 (by omega)) hk4s (Nat.le_refl _), (HF3.out.up.trans HF4.out).trans (Fr.one _ _ _ _).up, by omega, by omega, HPA.out, rfl, by omega, by omega⟩
      · obtain ⟨rfl, rfl, hr, hev⟩ := hR
        have HR := Lib.hid hr
        have HE := Lib.hid hev
        clear hr hev
        go_wp2
        go_ret
        exact ⟨v, k4, d, sv4, o4, false, err4, some (n, r), rfl, HV.out, HI4.out.step (Fr.one _ _ _ _) (HI4.out.1.setDeepI _ d (by omega)) hk4s (Nat.le_refl _), (HF3.out.up.trans HF4.out).trans (Fr.one _ _ _ _).up, by omega, by omega, HPA.out, rfl, rfl, HR.out, HE.out⟩
  | true =>
    have HN := Lib.hid hnm
    have hz0 : 0 < (st wd).size := by
      rw [hzs]
      cases wd with
      | nil => cases hnm
      | cons a b => simp
    have g8 : isLt (st wd)[0] = true := by
      obtain ⟨q, hq⟩ := head_byte hz0
      rw [HZD.out] at hq
      rw [hq] at hnm
      exact hnm
    obtain ⟨q1, q2, q3⟩ := name_tok HXX.out (by rw [HWDX.out]; exact hnm)
    rw [HWDX.out, List.drop_drop, ← hzs] at q2
    rw [HWDX.out, List.length_drop, size_len, ← hzs] at q3
    have HTW := Lib.hid q2
    clear hnm hzs HZD q1 q2
    generalize hz : st wd = z at *
    have HZ := Lib.hid hz
    clear hz
    have g7 : decide (z.size = 0) = false := decide_eq_false (by omega)
    have g9 : ¬ z = ByteArray.empty := fun e => by rw [e] at hz0; exact absurd hz0 (by decide)
    obtain ⟨c0, c1, c2, c3, c4, c5, c6, fz⟩ := HI3.out.1.cells
    have f1 := fz 1
    clear c0 c2 c3 c4 c5 c6 fz
    go_upto_region 8 with (first
      | (go_at_call 14; (with_reducible refine (rletter_any _ _).mono ?_); rintro e w' ⟨rfl, rfl⟩))
    have HI5 := Lib.hid (HI3.out.step (Fr.one _ p 1 (.int .i64 ((j : Int) + (z.size : Int)))) (HI3.out.1.setAtI _ (j + z.size) (by omega)) (by omega) (by omega))
    have HSG := Lib.hid (rsign_any _ p s (j + z.size) (d + 1) gv sv false err (by omega) hs HI5.out.1)
    go_upto_region 9 with (first
      | (go_at_call 15; (with_reducible refine HSG.out.mono ?_); rintro e w5 ⟨j6, rfl, hR, hF, hkj6, hj6, ht⟩
         have HX := Lib.hid ht
         clear ht
         generalize hsg : sgR (s.data.toList.drop j6) = sg
         have HSGX := Lib.hid hsg
         clear hsg))
    have HI6 := Lib.hid (HI5.out.step hF hR hj6 hkj6)
    have HF6 := Lib.hid hF
    have hxx : trimB (s.data.toList.drop j6) = s.data.toList.drop j6 := by rw [HX.out, trim_trim]
    have HXX6 := Lib.hid hxx
    have HT6 := Lib.hid (show tokX (s.data.toList.drop (j + z.size)) = tokX (s.data.toList.drop j6) by rw [HX.out, tokX_trim])
    clear hR hF hxx HX HSG
    cases hna : isAsg sg with
    | false =>
      have HNA : Hid (∀ a b r, tokX (s.data.toList.drop j) = a :: b :: r → (isN a && isAsg b) = false) := Lib.hid (by
        intro a b r e
        rw [HTW.out, HT6.out] at e
        injection e with e1 e2
        cases hb : isAsg b with
        | false => simp
        | true =>
          have := head_asg HXX6.out e2 hb
          rw [HSGX.out] at this
          rw [this, hb] at hna
          cases hna)
      have hfin : sg = [] ∨ sg ∈ signL := by
        by_cases h0 : sg = []
        · exact .inl h0
        · have h1 := (sg_head (x := s.data.toList.drop j6) (by rw [HSGX.out]; exact h0)).2.2.2.1
          rw [HSGX.out] at h1
          unfold isSgn at h1
          rw [hna, Bool.or_false] at h1
          exact .inr (by simpa using h1)
      clear hna HXX6 HSGX c1 f1
      obtain ⟨c0, c1, c2, c3, c4, c5, c6, fz⟩ := HI6.out.1.cells
      have f1 := fz 1
      clear c0 c2 c3 c4 c5 c6 fz
      unfold signL at hfin
      simp only [List.mem_cons, List.not_mem_nil, or_false] at hfin
      rcases hfin with rfl | rfl | rfl | rfl | rfl | rfl | rfl | rfl | rfl | rfl | rfl | rfl | rfl | rfl | rfl | rfl | rfl | rfl | rfl | rfl | rfl | rfl | rfl | rfl | rfl
      · rw [show st [] = (⟨#[]⟩ : ByteArray) from rfl]
        go_upto_region 20 with (fail)
        have HI7 := Lib.hid (HI3.out.step (((Fr.one _ p 1 (.int .i64 ((j : Int) + (z.size : Int)))).trans HF6.out).trans (Fr.one _ p 1 (.int .i64 (j : Int)))) (HI6.out.1.setAt j) hj (Nat.le_refl _))
        have HF7 := Lib.hid (HF3.out.trans (((Fr.one _ p 1 (.int .i64 ((j : Int) + (z.size : Int)))).trans HF6.out).trans (Fr.one _ p 1 (.int .i64 (j : Int)))))
        have HCC := Lib.hid (HC.out _ _ _ _ _ c HI7.out)
        go_upto_region 21 with (first
          | (go_at_call 14; (with_reducible refine (rletter_any _ _).mono ?_); rintro e w' ⟨rfl, rfl⟩)
          | (go_at_call 19; (with_reducible refine HCC.out.mono ?_); rintro e w4 ⟨v, k4, d4, sv4, o4, form4, err4, R, rfl, hv, hI4, hF4, hk4, ho4, hP, hR⟩))
        have HV := Lib.hid hv
        have hk4s := hI4.2.2.2.2.2.2.1
        have HI4 := Lib.hid hI4
        have HF4 := Lib.hid hF4
        have HP := Lib.hid hP
        obtain ⟨c0, c1, c2, c3, c4, c5, c6, fz⟩ := hI4.1.cells
        have f2 := fz 2
        clear hv hI4 hF4 hP c0 c1 c3 c4 c5 c6 fz
        have HPA : Hid (PR .asg d (tokX (s.data.toList.drop k)) R) := Lib.hid (by rw [HT.out]; exact PR.asg_cho hd HNA.out HP.out)
        rcases R with _ | ⟨n, r⟩
        · obtain ⟨rfl, hd4, hd4'⟩ := hR
          obtain ⟨d8, rfl⟩ : ∃ d8, d4 = d8 + 1 := ⟨d4 - 1, by omega⟩
          go_wp2
          go_ret
          exact ⟨v, k4, d8, sv4, o4, true, err4, none, rfl, HV.out, HI4.out.step (Fr.one _ _ _ _) (HI4.out.1.setDeepI _ d8 (by omega)) hk4s (Nat.le_refl _), (HF7.out.up.trans HF4.out).trans (Fr.one _ _ _ _).up, by omega, by omega, HPA.out, rfl, by omega, by omega⟩
        · obtain ⟨rfl, rfl, hr, hev⟩ := hR
          have HR := Lib.hid hr
          have HE := Lib.hid hev
          clear hr hev
          go_wp2
          go_ret
          exact ⟨v, k4, d, sv4, o4, false, err4, some (n, r), rfl, HV.out, HI4.out.step (Fr.one _ _ _ _) (HI4.out.1.setDeepI _ d (by omega)) hk4s (Nat.le_refl _), (HF7.out.up.trans HF4.out).trans (Fr.one _ _ _ _).up, by omega, by omega, HPA.out, rfl, rfl, HR.out, HE.out⟩
      · rw [show st [63] = (⟨#[63]⟩ : ByteArray) from rfl]
        go_upto_region 20 with (fail)
        have HI7 := Lib.hid (HI3.out.step (((Fr.one _ p 1 (.int .i64 ((j : Int) + (z.size : Int)))).trans HF6.out).trans (Fr.one _ p 1 (.int .i64 (j : Int)))) (HI6.out.1.setAt j) hj (Nat.le_refl _))
        have HF7 := Lib.hid (HF3.out.trans (((Fr.one _ p 1 (.int .i64 ((j : Int) + (z.size : Int)))).trans HF6.out).trans (Fr.one _ p 1 (.int .i64 (j : Int)))))
        have HCC := Lib.hid (HC.out _ _ _ _ _ c HI7.out)
        go_upto_region 21 with (first
          | (go_at_call 14; (with_reducible refine (rletter_any _ _).mono ?_); rintro e w' ⟨rfl, rfl⟩)
          | (go_at_call 19; (with_reducible refine HCC.out.mono ?_); rintro e w4 ⟨v, k4, d4, sv4, o4, form4, err4, R, rfl, hv, hI4, hF4, hk4, ho4, hP, hR⟩))
        have HV := Lib.hid hv
        have hk4s := hI4.2.2.2.2.2.2.1
        have HI4 := Lib.hid hI4
        have HF4 := Lib.hid hF4
        have HP := Lib.hid hP
        obtain ⟨c0, c1, c2, c3, c4, c5, c6, fz⟩ := hI4.1.cells
        have f2 := fz 2
        clear hv hI4 hF4 hP c0 c1 c3 c4 c5 c6 fz
        have HPA : Hid (PR .asg d (tokX (s.data.toList.drop k)) R) := Lib.hid (by rw [HT.out]; exact PR.asg_cho hd HNA.out HP.out)
        rcases R with _ | ⟨n, r⟩
        · obtain ⟨rfl, hd4, hd4'⟩ := hR
          obtain ⟨d8, rfl⟩ : ∃ d8, d4 = d8 + 1 := ⟨d4 - 1, by omega⟩
          go_wp2
          go_ret
          exact ⟨v, k4, d8, sv4, o4, true, err4, none, rfl, HV.out, HI4.out.step (Fr.one _ _ _ _) (HI4.out.1.setDeepI _ d8 (by omega)) hk4s (Nat.le_refl _), (HF7.out.up.trans HF4.out).trans (Fr.one _ _ _ _).up, by omega, by omega, HPA.out, rfl, by omega, by omega⟩
        · obtain ⟨rfl, rfl, hr, hev⟩ := hR
          have HR := Lib.hid hr
          have HE := Lib.hid hev
          clear hr hev
          go_wp2
          go_ret
          exact ⟨v, k4, d, sv4, o4, false, err4, some (n, r), rfl, HV.out, HI4.out.step (Fr.one _ _ _ _) (HI4.out.1.setDeepI _ d (by omega)) hk4s (Nat.le_refl _), (HF7.out.up.trans HF4.out).trans (Fr.one _ _ _ _).up, by omega, by omega, HPA.out, rfl, rfl, HR.out, HE.out⟩
      · rw [show st [58] = (⟨#[58]⟩ : ByteArray) from rfl]
        go_upto_region 20 with (fail)
        have HI7 := Lib.hid (HI3.out.step (((Fr.one _ p 1 (.int .i64 ((j : Int) + (z.size : Int)))).trans HF6.out).trans (Fr.one _ p 1 (.int .i64 (j : Int)))) (HI6.out.1.setAt j) hj (Nat.le_refl _))
        have HF7 := Lib.hid (HF3.out.trans (((Fr.one _ p 1 (.int .i64 ((j : Int) + (z.size : Int)))).trans HF6.out).trans (Fr.one _ p 1 (.int .i64 (j : Int)))))
        have HCC := Lib.hid (HC.out _ _ _ _ _ c HI7.out)
        go_upto_region 21 with (first
          | (go_at_call 14; (with_reducible refine (rletter_any _ _).mono ?_); rintro e w' ⟨rfl, rfl⟩)
          | (go_at_call 19; (with_reducible refine HCC.out.mono ?_); rintro e w4 ⟨v, k4, d4, sv4, o4, form4, err4, R, rfl, hv, hI4, hF4, hk4, ho4, hP, hR⟩))
        have HV := Lib.hid hv
        have hk4s := hI4.2.2.2.2.2.2.1
        have HI4 := Lib.hid hI4
        have HF4 := Lib.hid hF4
        have HP := Lib.hid hP
        obtain ⟨c0, c1, c2, c3, c4, c5, c6, fz⟩ := hI4.1.cells
        have f2 := fz 2
        clear hv hI4 hF4 hP c0 c1 c3 c4 c5 c6 fz
        have HPA : Hid (PR .asg d (tokX (s.data.toList.drop k)) R) := Lib.hid (by rw [HT.out]; exact PR.asg_cho hd HNA.out HP.out)
        rcases R with _ | ⟨n, r⟩
        · obtain ⟨rfl, hd4, hd4'⟩ := hR
          obtain ⟨d8, rfl⟩ : ∃ d8, d4 = d8 + 1 := ⟨d4 - 1, by omega⟩
          go_wp2
          go_ret
          exact ⟨v, k4, d8, sv4, o4, true, err4, none, rfl, HV.out, HI4.out.step (Fr.one _ _ _ _) (HI4.out.1.setDeepI _ d8 (by omega)) hk4s (Nat.le_refl _), (HF7.out.up.trans HF4.out).trans (Fr.one _ _ _ _).up, by omega, by omega, HPA.out, rfl, by omega, by omega⟩
        · obtain ⟨rfl, rfl, hr, hev⟩ := hR
          have HR := Lib.hid hr
          have HE := Lib.hid hev
          clear hr hev
          go_wp2
          go_ret
          exact ⟨v, k4, d, sv4, o4, false, err4, some (n, r), rfl, HV.out, HI4.out.step (Fr.one _ _ _ _) (HI4.out.1.setDeepI _ d (by omega)) hk4s (Nat.le_refl _), (HF7.out.up.trans HF4.out).trans (Fr.one _ _ _ _).up, by omega, by omega, HPA.out, rfl, rfl, HR.out, HE.out⟩
      · rw [show st [124, 124] = (⟨#[124, 124]⟩ : ByteArray) from rfl]
        go_upto_region 20 with (fail)
        have HI7 := Lib.hid (HI3.out.step (((Fr.one _ p 1 (.int .i64 ((j : Int) + (z.size : Int)))).trans HF6.out).trans (Fr.one _ p 1 (.int .i64 (j : Int)))) (HI6.out.1.setAt j) hj (Nat.le_refl _))
        have HF7 := Lib.hid (HF3.out.trans (((Fr.one _ p 1 (.int .i64 ((j : Int) + (z.size : Int)))).trans HF6.out).trans (Fr.one _ p 1 (.int .i64 (j : Int)))))
        have HCC := Lib.hid (HC.out _ _ _ _ _ c HI7.out)
        go_upto_region 21 with (first
          | (go_at_call 14; (with_reducible refine (rletter_any _ _).mono ?_); rintro e w' ⟨rfl, rfl⟩)
          | (go_at_call 19; (with_reducible refine HCC.out.mono ?_); rintro e w4 ⟨v, k4, d4, sv4, o4, form4, err4, R, rfl, hv, hI4, hF4, hk4, ho4, hP, hR⟩))
        have HV := Lib.hid hv
        have hk4s := hI4.2.2.2.2.2.2.1
        have HI4 := Lib.hid hI4
        have HF4 := Lib.hid hF4
        have HP := Lib.hid hP
        obtain ⟨c0, c1, c2, c3, c4, c5, c6, fz⟩ := hI4.1.cells
        have f2 := fz 2
        clear hv hI4 hF4 hP c0 c1 c3 c4 c5 c6 fz
        have HPA : Hid (PR .asg d (tokX (s.data.toList.drop k)) R) := Lib.hid (by rw [HT.out]; exact PR.asg_cho hd HNA.out HP.out)
        rcases R with _ | ⟨n, r⟩
        · obtain ⟨rfl, hd4, hd4'⟩ := hR
          obtain ⟨d8, rfl⟩ : ∃ d8, d4 = d8 + 1 := ⟨d4 - 1, by omega⟩
          go_wp2
          go_ret
          exact ⟨v, k4, d8, sv4, o4, true, err4, none, rfl, HV.out, HI4.out.step (Fr.one _ _ _ _) (HI4.out.1.setDeepI _ d8 (by omega)) hk4s (Nat.le_refl _), (HF7.out.up.trans HF4.out).trans (Fr.one _ _ _ _).up, by omega, by omega, HPA.out, rfl, by omega, by omega⟩
        · obtain ⟨rfl, rfl, hr, hev⟩ := hR
          have HR := Lib.hid hr
          have HE := Lib.hid hev
          clear hr hev
          go_wp2
          go_ret
          exact ⟨v, k4, d, sv4, o4, false, err4, some (n, r), rfl, HV.out, HI4.out.step (Fr.one _ _ _ _) (HI4.out.1.setDeepI _ d (by omega)) hk4s (Nat.le_refl _), (HF7.out.up.trans HF4.out).trans (Fr.one _ _ _ _).up, by omega, by omega, HPA.out, rfl, rfl, HR.out, HE.out⟩
      · rw [show st [38, 38] = (⟨#[38, 38]⟩ : ByteArray) from rfl]
        go_upto_region 20 with (fail)
        have HI7 := Lib.hid (HI3.out.step (((Fr.one _ p 1 (.int .i64 ((j : Int) + (z.size : Int)))).trans HF6.out).trans (Fr.one _ p 1 (.int .i64 (j : Int)))) (HI6.out.1.setAt j) hj (Nat.le_refl _))
        have HF7 := Lib.hid (HF3.out.trans (((Fr.one _ p 1 (.int .i64 ((j : Int) + (z.size : Int)))).trans HF6.out).trans (Fr.one _ p 1 (.int .i64 (j : Int)))))
        have HCC := Lib.hid (HC.out _ _ _ _ _ c HI7.out)
        go_upto_region 21 with (first
          | (go_at_call 14; (with_reducible refine (rletter_any _ _).mono ?_); rintro e w' ⟨rfl, rfl⟩)
          | (go_at_call 19; (with_reducible refine HCC.out.mono ?_); rintro e w4 ⟨v, k4, d4, sv4, o4, form4, err4, R, rfl, hv, hI4, hF4, hk4, ho4, hP, hR⟩))
        have HV := Lib.hid hv
        have hk4s := hI4.2.2.2.2.2.2.1
        have HI4 := Lib.hid hI4
        have HF4 := Lib.hid hF4
        have HP := Lib.hid hP
        obtain ⟨c0, c1, c2, c3, c4, c5, c6, fz⟩ := hI4.1.cells
        have f2 := fz 2
        clear hv hI4 hF4 hP c0 c1 c3 c4 c5 c6 fz
        have HPA : Hid (PR .asg d (tokX (s.data.toList.drop k)) R) := Lib.hid (by rw [HT.out]; exact PR.asg_cho hd HNA.out HP.out)
        rcases R with _ | ⟨n, r⟩
        · obtain ⟨rfl, hd4, hd4'⟩ := hR
          obtain ⟨d8, rfl⟩ : ∃ d8, d4 = d8 + 1 := ⟨d4 - 1, by omega⟩
          go_wp2
          go_ret
          exact ⟨v, k4, d8, sv4, o4, true, err4, none, rfl, HV.out, HI4.out.step (Fr.one _ _ _ _) (HI4.out.1.setDeepI _ d8 (by omega)) hk4s (Nat.le_refl _), (HF7.out.up.trans HF4.out).trans (Fr.one _ _ _ _).up, by omega, by omega, HPA.out, rfl, by omega, by omega⟩
        · obtain ⟨rfl, rfl, hr, hev⟩ := hR
          have HR := Lib.hid hr
          have HE := Lib.hid hev
          clear hr hev
          go_wp2
          go_ret
          exact ⟨v, k4, d, sv4, o4, false, err4, some (n, r), rfl, HV.out, HI4.out.step (Fr.one _ _ _ _) (HI4.out.1.setDeepI _ d (by omega)) hk4s (Nat.le_refl _), (HF7.out.up.trans HF4.out).trans (Fr.one _ _ _ _).up, by omega, by omega, HPA.out, rfl, rfl, HR.out, HE.out⟩
      · rw [show st [124] = (⟨#[124]⟩ : ByteArray) from rfl]
        go_upto_region 20 with (fail)
        have HI7 := Lib.hid (HI3.out.step (((Fr.one _ p 1 (.int .i64 ((j : Int) + (z.size : Int)))).trans HF6.out).trans (Fr.one _ p 1 (.int .i64 (j : Int)))) (HI6.out.1.setAt j) hj (Nat.le_refl _))
        have HF7 := Lib.hid (HF3.out.trans (((Fr.one _ p 1 (.int .i64 ((j : Int) + (z.size : Int)))).trans HF6.out).trans (Fr.one _ p 1 (.int .i64 (j : Int)))))
        have HCC := Lib.hid (HC.out _ _ _ _ _ c HI7.out)
        go_upto_region 21 with (first
          | (go_at_call 14; (with_reducible refine (rletter_any _ _).mono ?_); rintro e w' ⟨rfl, rfl⟩)
          | (go_at_call 19; (with_reducible refine HCC.out.mono ?_); rintro e w4 ⟨v, k4, d4, sv4, o4, form4, err4, R, rfl, hv, hI4, hF4, hk4, ho4, hP, hR⟩))
        have HV := Lib.hid hv
        have hk4s := hI4.2.2.2.2.2.2.1
        have HI4 := Lib.hid hI4
        have HF4 := Lib.hid hF4
        have HP := Lib.hid hP
        obtain ⟨c0, c1, c2, c3, c4, c5, c6, fz⟩ := hI4.1.cells
        have f2 := fz 2
        clear hv hI4 hF4 hP c0 c1 c3 c4 c5 c6 fz
        have HPA : Hid (PR .asg d (tokX (s.data.toList.drop k)) R) := Lib.hid (by rw [HT.out]; exact PR.asg_cho hd HNA.out HP.out)
        rcases R with _ | ⟨n, r⟩
        · obtain ⟨rfl, hd4, hd4'⟩ := hR
          obtain ⟨d8, rfl⟩ : ∃ d8, d4 = d8 + 1 := ⟨d4 - 1, by omega⟩
          go_wp2
          go_ret
          exact ⟨v, k4, d8, sv4, o4, true, err4, none, rfl, HV.out, HI4.out.step (Fr.one _ _ _ _) (HI4.out.1.setDeepI _ d8 (by omega)) hk4s (Nat.le_refl _), (HF7.out.up.trans HF4.out).trans (Fr.one _ _ _ _).up, by omega, by omega, HPA.out, rfl, by omega, by omega⟩
        · obtain ⟨rfl, rfl, hr, hev⟩ := hR
          have HR := Lib.hid hr
          have HE := Lib.hid hev
          clear hr hev
          go_wp2
          go_ret
          exact ⟨v, k4, d, sv4, o4, false, err4, some (n, r), rfl, HV.out, HI4.out.step (Fr.one _ _ _ _) (HI4.out.1.setDeepI _ d (by omega)) hk4s (Nat.le_refl _), (HF7.out.up.trans HF4.out).trans (Fr.one _ _ _ _).up, by omega, by omega, HPA.out, rfl, rfl, HR.out, HE.out⟩
      · rw [show st [94] = (⟨#[94]⟩ : ByteArray) from rfl]
        go_upto_region 20 with (fail)
        have HI7 := Lib.hid (HI3.out.step (((Fr.one _ p 1 (.int .i64 ((j : Int) + (z.size : Int)))).trans HF6.out).trans (Fr.one _ p 1 (.int .i64 (j : Int)))) (HI6.out.1.setAt j) hj (Nat.le_refl _))
        have HF7 := Lib.hid (HF3.out.trans (((Fr.one _ p 1 (.int .i64 ((j : Int) + (z.size : Int)))).trans HF6.out).trans (Fr.one _ p 1 (.int .i64 (j : Int)))))
        have HCC := Lib.hid (HC.out _ _ _ _ _ c HI7.out)
        go_upto_region 21 with (first
          | (go_at_call 14; (with_reducible refine (rletter_any _ _).mono ?_); rintro e w' ⟨rfl, rfl⟩)
          | (go_at_call 19; (with_reducible refine HCC.out.mono ?_); rintro e w4 ⟨v, k4, d4, sv4, o4, form4, err4, R, rfl, hv, hI4, hF4, hk4, ho4, hP, hR⟩))
        have HV := Lib.hid hv
        have hk4s := hI4.2.2.2.2.2.2.1
        have HI4 := Lib.hid hI4
        have HF4 := Lib.hid hF4
        have HP := Lib.hid hP
        obtain ⟨c0, c1, c2, c3, c4, c5, c6, fz⟩ := hI4.1.cells
        have f2 := fz 2
        clear hv hI4 hF4 hP c0 c1 c3 c4 c5 c6 fz
        have HPA : Hid (PR .asg d (tokX (s.data.toList.drop k)) R) := Lib.hid (by rw [HT.out]; exact PR.asg_cho hd HNA.out HP.out)
        rcases R with _ | ⟨n, r⟩
        · obtain ⟨rfl, hd4, hd4'⟩ := hR
          obtain ⟨d8, rfl⟩ : ∃ d8, d4 = d8 + 1 := ⟨d4 - 1, by omega⟩
          go_wp2
          go_ret
          exact ⟨v, k4, d8, sv4, o4, true, err4, none, rfl, HV.out, HI4.out.step (Fr.one _ _ _ _) (HI4.out.1.setDeepI _ d8 (by omega)) hk4s (Nat.le_refl _), (HF7.out.up.trans HF4.out).trans (Fr.one _ _ _ _).up, by omega, by omega, HPA.out, rfl, by omega, by omega⟩
        · obtain ⟨rfl, rfl, hr, hev⟩ := hR
          have HR := Lib.hid hr
          have HE := Lib.hid hev
          clear hr hev
          go_wp2
          go_ret
          exact ⟨v, k4, d, sv4, o4, false, err4, some (n, r), rfl, HV.out, HI4.out.step (Fr.one _ _ _ _) (HI4.out.1.setDeepI _ d (by omega)) hk4s (Nat.le_refl _), (HF7.out.up.trans HF4.out).trans (Fr.one _ _ _ _).up, by omega, by omega, HPA.out, rfl, rfl, HR.out, HE.out⟩
      · rw [show st [38] = (⟨#[38]⟩ : ByteArray) from rfl]
        go_upto_region 20 with (fail)
        have HI7 := Lib.hid (HI3.out.step (((Fr.one _ p 1 (.int .i64 ((j : Int) + (z.size : Int)))).trans HF6.out).trans (Fr.one _ p 1 (.int .i64 (j : Int)))) (HI6.out.1.setAt j) hj (Nat.le_refl _))
        have HF7 := Lib.hid (HF3.out.trans (((Fr.one _ p 1 (.int .i64 ((j : Int) + (z.size : Int)))).trans HF6.out).trans (Fr.one _ p 1 (.int .i64 (j : Int)))))
        have HCC := Lib.hid (HC.out _ _ _ _ _ c HI7.out)
        go_upto_region 21 with (first
          | (go_at_call 14; (with_reducible refine (rletter_any _ _).mono ?_); rintro e w' ⟨rfl, rfl⟩)
          | (go_at_call 19; (with_reducible refine HCC.out.mono ?_); rintro e w4 ⟨v, k4, d4, sv4, o4, form4, err4, R, rfl, hv, hI4, hF4, hk4, ho4, hP, hR⟩))
        have HV := Lib.hid hv
        have hk4s := hI4.2.2.2.2.2.2.1
        have HI4 := Lib.hid hI4
        have HF4 := Lib.hid hF4
        have HP := Lib.hid hP
        obtain ⟨c0, c1, c2, c3, c4, c5, c6, fz⟩ := hI4.1.cells
        have f2 := fz 2
        clear hv hI4 hF4 hP c0 c1 c3 c4 c5 c6 fz
        have HPA : Hid (PR .asg d (tokX (s.data.toList.drop k)) R) := Lib.hid (by rw [HT.out]; exact PR.asg_cho hd HNA.out HP.out)
        rcases R with _ | ⟨n, r⟩
        · obtain ⟨rfl, hd4, hd4'⟩ := hR
          obtain ⟨d8, rfl⟩ : ∃ d8, d4 = d8 + 1 := ⟨d4 - 1, by omega⟩
          go_wp2
          go_ret
          exact ⟨v, k4, d8, sv4, o4, true, err4, none, rfl, HV.out, HI4.out.step (Fr.one _ _ _ _) (HI4.out.1.setDeepI _ d8 (by omega)) hk4s (Nat.le_refl _), (HF7.out.up.trans HF4.out).trans (Fr.one _ _ _ _).up, by omega, by omega, HPA.out, rfl, by omega, by omega⟩
        · obtain ⟨rfl, rfl, hr, hev⟩ := hR
          have HR := Lib.hid hr
          have HE := Lib.hid hev
          clear hr hev
          go_wp2
          go_ret
          exact ⟨v, k4, d, sv4, o4, false, err4, some (n, r), rfl, HV.out, HI4.out.step (Fr.one _ _ _ _) (HI4.out.1.setDeepI _ d (by omega)) hk4s (Nat.le_refl _), (HF7.out.up.trans HF4.out).trans (Fr.one _ _ _ _).up, by omega, by omega, HPA.out, rfl, rfl, HR.out, HE.out⟩
      · rw [show st [61, 61] = (⟨#[61, 61]⟩ : ByteArray) from rfl]
        go_upto_region 20 with (fail)
        have HI7 := Lib.hid (HI3.out.step (((Fr.one _ p 1 (.int .i64 ((j : Int) + (z.size : Int)))).trans HF6.out).trans (Fr.one _ p 1 (.int .i64 (j : Int)))) (HI6.out.1.setAt j) hj (Nat.le_refl _))
        have HF7 := Lib.hid (HF3.out.trans (((Fr.one _ p 1 (.int .i64 ((j : Int) + (z.size : Int)))).trans HF6.out).trans (Fr.one _ p 1 (.int .i64 (j : Int)))))
        have HCC := Lib.hid (HC.out _ _ _ _ _ c HI7.out)
        go_upto_region 21 with (first
          | (go_at_call 14; (with_reducible refine (rletter_any _ _).mono ?_); rintro e w' ⟨rfl, rfl⟩)
          | (go_at_call 19; (with_reducible refine HCC.out.mono ?_); rintro e w4 ⟨v, k4, d4, sv4, o4, form4, err4, R, rfl, hv, hI4, hF4, hk4, ho4, hP, hR⟩))
        have HV := Lib.hid hv
        have hk4s := hI4.2.2.2.2.2.2.1
        have HI4 := Lib.hid hI4
        have HF4 := Lib.hid hF4
        have HP := Lib.hid hP
        obtain ⟨c0, c1, c2, c3, c4, c5, c6, fz⟩ := hI4.1.cells
        have f2 := fz 2
        clear hv hI4 hF4 hP c0 c1 c3 c4 c5 c6 fz
        have HPA : Hid (PR .asg d (tokX (s.data.toList.drop k)) R) := Lib.hid (by rw [HT.out]; exact PR.asg_cho hd HNA.out HP.out)
        rcases R with _ | ⟨n, r⟩
        · obtain ⟨rfl, hd4, hd4'⟩ := hR
          obtain ⟨d8, rfl⟩ : ∃ d8, d4 = d8 + 1 := ⟨d4 - 1, by omega⟩
          go_wp2
          go_ret
          exact ⟨v, k4, d8, sv4, o4, true, err4, none, rfl, HV.out, HI4.out.step (Fr.one _ _ _ _) (HI4.out.1.setDeepI _ d8 (by omega)) hk4s (Nat.le_refl _), (HF7.out.up.trans HF4.out).trans (Fr.one _ _ _ _).up, by omega, by omega, HPA.out, rfl, by omega, by omega⟩
        · obtain ⟨rfl, rfl, hr, hev⟩ := hR
          have HR := Lib.hid hr
          have HE := Lib.hid hev
          clear hr hev
          go_wp2
          go_ret
          exact ⟨v, k4, d, sv4, o4, false, err4, some (n, r), rfl, HV.out, HI4.out.step (Fr.one _ _ _ _) (HI4.out.1.setDeepI _ d (by omega)) hk4s (Nat.le_refl _), (HF7.out.up.trans HF4.out).trans (Fr.one _ _ _ _).up, by omega, by omega, HPA.out, rfl, rfl, HR.out, HE.out⟩
      · rw [show st [33, 61] = (⟨#[33, 61]⟩ : ByteArray) from rfl]
        go_upto_region 20 with (fail)
        have HI7 := Lib.hid (HI3.out.step (((Fr.one _ p 1 (.int .i64 ((j : Int) + (z.size : Int)))).trans HF6.out).trans (Fr.one _ p 1 (.int .i64 (j : Int)))) (HI6.out.1.setAt j) hj (Nat.le_refl _))
        have HF7 := Lib.hid (HF3.out.trans (((Fr.one _ p 1 (.int .i64 ((j : Int) + (z.size : Int)))).trans HF6.out).trans (Fr.one _ p 1 (.int .i64 (j : Int)))))
        have HCC := Lib.hid (HC.out _ _ _ _ _ c HI7.out)
        go_upto_region 21 with (first
          | (go_at_call 14; (with_reducible refine (rletter_any _ _).mono ?_); rintro e w' ⟨rfl, rfl⟩)
          | (go_at_call 19; (with_reducible refine HCC.out.mono ?_); rintro e w4 ⟨v, k4, d4, sv4, o4, form4, err4, R, rfl, hv, hI4, hF4, hk4, ho4, hP, hR⟩))
        have HV := Lib.hid hv
        have hk4s := hI4.2.2.2.2.2.2.1
        have HI4 := Lib.hid hI4
        have HF4 := Lib.hid hF4
        have HP := Lib.hid hP
        obtain ⟨c0, c1, c2, c3, c4, c5, c6, fz⟩ := hI4.1.cells
        have f2 := fz 2
        clear hv hI4 hF4 hP c0 c1 c3 c4 c5 c6 fz
        have HPA : Hid (PR .asg d (tokX (s.data.toList.drop k)) R) := Lib.hid (by rw [HT.out]; exact PR.asg_cho hd HNA.out HP.out)
        rcases R with _ | ⟨n, r⟩
        · obtain ⟨rfl, hd4, hd4'⟩ := hR
          obtain ⟨d8, rfl⟩ : ∃ d8, d4 = d8 + 1 := ⟨d4 - 1, by omega⟩
          go_wp2
          go_ret
          exact ⟨v, k4, d8, sv4, o4, true, err4, none, rfl, HV.out, HI4.out.step (Fr.one _ _ _ _) (HI4.out.1.setDeepI _ d8 (by omega)) hk4s (Nat.le_refl _), (HF7.out.up.trans HF4.out).trans (Fr.one _ _ _ _).up, by omega, by omega, HPA.out, rfl, by omega, by omega⟩
        · obtain ⟨rfl, rfl, hr, hev⟩ := hR
          have HR := Lib.hid hr
          have HE := Lib.hid hev
          clear hr hev
          go_wp2
          go_ret
          exact ⟨v, k4, d, sv4, o4, false, err4, some (n, r), rfl, HV.out, HI4.out.step (Fr.one _ _ _ _) (HI4.out.1.setDeepI _ d (by omega)) hk4s (Nat.le_refl _), (HF7.out.up.trans HF4.out).trans (Fr.one _ _ _ _).up, by omega, by omega, HPA.out, rfl, rfl, HR.out, HE.out⟩
      · rw [show st [60] = (⟨#[60]⟩ : ByteArray) from rfl]
        go_upto_region 20 with (fail)
        have HI7 := Lib.hid (HI3.out.step (((Fr.one _ p 1 (.int .i64 ((j : Int) + (z.size : Int)))).trans HF6.out).trans (Fr.one _ p 1 (.int .i64 (j : Int)))) (HI6.out.1.setAt j) hj (Nat.le_refl _))
        have HF7 := Lib.hid (HF3.out.trans (((Fr.one _ p 1 (.int .i64 ((j : Int) + (z.size : Int)))).trans HF6.out).trans (Fr.one _ p 1 (.int .i64 (j : Int)))))
        have HCC := Lib.hid (HC.out _ _ _ _ _ c HI7.out)
        go_upto_region 21 with (first
          | (go_at_call 14; (with_reducible refine (rletter_any _ _).mono ?_); rintro e w' ⟨rfl, rfl⟩)
          | (go_at_call 19; (with_reducible refine HCC.out.mono ?_); rintro e w4 ⟨v, k4, d4, sv4, o4, form4, err4, R, rfl, hv, hI4, hF4, hk4, ho4, hP, hR⟩))
        have HV := Lib.hid hv
        have hk4s := hI4.2.2.2.2.2.2.1
        have HI4 := Lib.hid hI4
        have HF4 := Lib.hid hF4
        have HP := Lib.hid hP
        obtain ⟨c0, c1, c2, c3, c4, c5, c6, fz⟩ := hI4.1.cells
        have f2 := fz 2
        clear hv hI4 hF4 hP c0 c1 c3 c4 c5 c6 fz
        have HPA : Hid (PR .asg d (tokX (s.data.toList.drop k)) R) := Lib.hid (by rw [HT.out]; exact PR.asg_cho hd HNA.out HP.out)
        rcases R with _ | ⟨n, r⟩
        · obtain ⟨rfl, hd4, hd4'⟩ := hR
          obtain ⟨d8, rfl⟩ : ∃ d8, d4 = d8 + 1 := ⟨d4 - 1, by omega⟩
          go_wp2
          go_ret
          exact ⟨v, k4, d8, sv4, o4, true, err4, none, rfl, HV.out, HI4.out.step (Fr.one _ _ _ _) (HI4.out.1.setDeepI _ d8 (by omega)) hk4s (Nat.le_refl _), (HF7.out.up.trans HF4.out).trans (Fr.one _ _ _ _).up, by omega, by omega, HPA.out, rfl, by omega, by omega⟩
        · obtain ⟨rfl, rfl, hr, hev⟩ := hR
          have HR := Lib.hid hr
          have HE := Lib.hid hev
          clear hr hev
          go_wp2
          go_ret
          exact ⟨v, k4, d, sv4, o4, false, err4, some (n, r), rfl, HV.out, HI4.out.step (Fr.one _ _ _ _) (HI4.out.1.setDeepI _ d (by omega)) hk4s (Nat.le_refl _), (HF7.out.up.trans HF4.out).trans (Fr.one _ _ _ _).up, by omega, by omega, HPA.out, rfl, rfl, HR.out, HE.out⟩
      · rw [show st [60, 61] = (⟨#[60, 61]⟩ : ByteArray) from rfl]
        go_upto_region 20 with (fail)
        have HI7 := Lib.hid (HI3.out.step (((Fr.one _ p 1 (.int .i64 ((j : Int) + (z.size : Int)))).trans HF6.out).trans (Fr.one _ p 1 (.int .i64 (j : Int)))) (HI6.out.1.setAt j) hj (Nat.le_refl _))
        have HF7 := Lib.hid (HF3.out.trans (((Fr.one _ p 1 (.int .i64 ((j : Int) + (z.size : Int)))).trans HF6.out).trans (Fr.one _ p 1 (.int .i64 (j : Int)))))
        have HCC := Lib.hid (HC.out _ _ _ _ _ c HI7.out)
        go_upto_region 21 with (first
          | (go_at_call 14; (with_reducible refine (rletter_any _ _).mono ?_); rintro e w' ⟨rfl, rfl⟩)
          | (go_at_call 19; (with_reducible refine HCC.out.mono ?_); rintro e w4 ⟨v, k4, d4, sv4, o4, form4, err4, R, rfl, hv, hI4, hF4, hk4, ho4, hP, hR⟩))
        have HV := Lib.hid hv
        have hk4s := hI4.2.2.2.2.2.2.1
        have HI4 := Lib.hid hI4
        have HF4 := Lib.hid hF4
        have HP := Lib.hid hP
        obtain ⟨c0, c1, c2, c3, c4, c5, c6, fz⟩ := hI4.1.cells
        have f2 := fz 2
        clear hv hI4 hF4 hP c0 c1 c3 c4 c5 c6 fz
        have HPA : Hid (PR .asg d (tokX (s.data.toList.drop k)) R) := Lib.hid (by rw [HT.out]; exact PR.asg_cho hd HNA.out HP.out)
        rcases R with _ | ⟨n, r⟩
        · obtain ⟨rfl, hd4, hd4'⟩ := hR
          obtain ⟨d8, rfl⟩ : ∃ d8, d4 = d8 + 1 := ⟨d4 - 1, by omega⟩
          go_wp2
          go_ret
          exact ⟨v, k4, d8, sv4, o4, true, err4, none, rfl, HV.out, HI4.out.step (Fr.one _ _ _ _) (HI4.out.1.setDeepI _ d8 (by omega)) hk4s (Nat.le_refl _), (HF7.out.up.trans HF4.out).trans (Fr.one _ _ _ _).up, by omega, by omega, HPA.out, rfl, by omega, by omega⟩
        · obtain ⟨rfl, rfl, hr, hev⟩ := hR
          have HR := Lib.hid hr
          have HE := Lib.hid hev
          clear hr hev
          go_wp2
          go_ret
          exact ⟨v, k4, d, sv4, o4, false, err4, some (n, r), rfl, HV.out, HI4.out.step (Fr.one _ _ _ _) (HI4.out.1.setDeepI _ d (by omega)) hk4s (Nat.le_refl _), (HF7.out.up.trans HF4.out).trans (Fr.one _ _ _ _).up, by omega, by omega, HPA.out, rfl, rfl, HR.out, HE.out⟩
      · rw [show st [62] = (⟨#[62]⟩ : ByteArray) from rfl]
        go_upto_region 20 with (fail)
        have HI7 := Lib.hid (HI3.out.step (((Fr.one _ p 1 (.int .i64 ((j : Int) + (z.size : Int)))).trans HF6.out).trans (Fr.one _ p 1 (.int .i64 (j : Int)))) (HI6.out.1.setAt j) hj (Nat.le_refl _))
        have HF7 := Lib.hid (HF3.out.trans (((Fr.one _ p 1 (.int .i64 ((j : Int) + (z.size : Int)))).trans HF6.out).trans (Fr.one _ p 1 (.int .i64 (j : Int)))))
        have HCC := Lib.hid (HC.out _ _ _ _ _ c HI7.out)
        go_upto_region 21 with (first
          | (go_at_call 14; (with_reducible refine (rletter_any _ _).mono ?_); rintro e w' ⟨rfl, rfl⟩)
          | (go_at_call 19; (with_reducible refine HCC.out.mono ?_); rintro e w4 ⟨v, k4, d4, sv4, o4, form4, err4, R, rfl, hv, hI4, hF4, hk4, ho4, hP, hR⟩))
        have HV := Lib.hid hv
        have hk4s := hI4.2.2.2.2.2.2.1
        have HI4 := Lib.hid hI4
        have HF4 := Lib.hid hF4
        have HP := Lib.hid hP
        obtain ⟨c0, c1, c2, c3, c4, c5, c6, fz⟩ := hI4.1.cells
        have f2 := fz 2
        clear hv hI4 hF4 hP c0 c1 c3 c4 c5 c6 fz
        have HPA : Hid (PR .asg d (tokX (s.data.toList.drop k)) R) := Lib.hid (by rw [HT.out]; exact PR.asg_cho hd HNA.out HP.out)
        rcases R with _ | ⟨n, r⟩
        · obtain ⟨rfl, hd4, hd4'⟩ := hR
          obtain ⟨d8, rfl⟩ : ∃ d8, d4 = d8 + 1 := ⟨d4 - 1, by omega⟩
          go_wp2
          go_ret
          exact ⟨v, k4, d8, sv4, o4, true, err4, none, rfl, HV.out, HI4.out.step (Fr.one _ _ _ _) (HI4.out.1.setDeepI _ d8 (by omega)) hk4s (Nat.le_refl _), (HF7.out.up.trans HF4.out).trans (Fr.one _ _ _ _).up, by omega, by omega, HPA.out, rfl, by omega, by omega⟩
        · obtain ⟨rfl, rfl, hr, hev⟩ := hR
          have HR := Lib.hid hr
          have HE := Lib.hid hev
          clear hr hev
          go_wp2
          go_ret
          exact ⟨v, k4, d, sv4, o4, false, err4, some (n, r), rfl, HV.out, HI4.out.step (Fr.one _ _ _ _) (HI4.out.1.setDeepI _ d (by omega)) hk4s (Nat.le_refl _), (HF7.out.up.trans HF4.out).trans (Fr.one _ _ _ _).up, by omega, by omega, HPA.out, rfl, rfl, HR.out, HE.out⟩
      · rw [show st [62, 61] = (⟨#[62, 61]⟩ : ByteArray) from rfl]
        go_upto_region 20 with (fail)
        have HI7 := Lib.hid (HI3.out.step (((Fr.one _ p 1 (.int .i64 ((j : Int) + (z.size : Int)))).trans HF6.out).trans (Fr.one _ p 1 (.int .i64 (j : Int)))) (HI6.out.1.setAt j) hj (Nat.le_refl _))
        have HF7 := Lib.hid (HF3.out.trans (((Fr.one _ p 1 (.int .i64 ((j : Int) + (z.size : Int)))).trans HF6.out).trans (Fr.one _ p 1 (.int .i64 (j : Int)))))
        have HCC := Lib.hid (HC.out _ _ _ _ _ c HI7.out)
        go_upto_region 21 with (first
          | (go_at_call 14; (with_reducible refine (rletter_any _ _).mono ?_); rintro e w' ⟨rfl, rfl⟩)
          | (go_at_call 19; (with_reducible refine HCC.out.mono ?_); rintro e w4 ⟨v, k4, d4, sv4, o4, form4, err4, R, rfl, hv, hI4, hF4, hk4, ho4, hP, hR⟩))
        have HV := Lib.hid hv
        have hk4s := hI4.2.2.2.2.2.2.1
        have HI4 := Lib.hid hI4
        have HF4 := Lib.hid hF4
        have HP := Lib.hid hP
        obtain ⟨c0, c1, c2, c3, c4, c5, c6, fz⟩ := hI4.1.cells
        have f2 := fz 2
        clear hv hI4 hF4 hP c0 c1 c3 c4 c5 c6 fz
        have HPA : Hid (PR .asg d (tokX (s.data.toList.drop k)) R) := Lib.hid (by rw [HT.out]; exact PR.asg_cho hd HNA.out HP.out)
        rcases R with _ | ⟨n, r⟩
        · obtain ⟨rfl, hd4, hd4'⟩ := hR
          obtain ⟨d8, rfl⟩ : ∃ d8, d4 = d8 + 1 := ⟨d4 - 1, by omega⟩
          go_wp2
          go_ret
          exact ⟨v, k4, d8, sv4, o4, true, err4, none, rfl, HV.out, HI4.out.step (Fr.one _ _ _ _) (HI4.out.1.setDeepI _ d8 (by omega)) hk4s (Nat.le_refl _), (HF7.out.up.trans HF4.out).trans (Fr.one _ _ _ _).up, by omega, by omega, HPA.out, rfl, by omega, by omega⟩
        · obtain ⟨rfl, rfl, hr, hev⟩ := hR
          have HR := Lib.hid hr
          have HE := Lib.hid hev
          clear hr hev
          go_wp2
          go_ret
          exact ⟨v, k4, d, sv4, o4, false, err4, some (n, r), rfl, HV.out, HI4.out.step (Fr.one _ _ _ _) (HI4.out.1.setDeepI _ d (by omega)) hk4s (Nat.le_refl _), (HF7.out.up.trans HF4.out).trans (Fr.one _ _ _ _).up, by omega, by omega, HPA.out, rfl, rfl, HR.out, HE.out⟩
      · rw [show st [60, 60] = (⟨#[60, 60]⟩ : ByteArray) from rfl]
        go_upto_region 20 with (fail)
        have HI7 := Lib.hid (HI3.out.step (((Fr.one _ p 1 (.int .i64 ((j : Int) + (z.size : Int)))).trans HF6.out).trans (Fr.one _ p 1 (.int .i64 (j : Int)))) (HI6.out.1.setAt j) hj (Nat.le_refl _))
        have HF7 := Lib.hid (HF3.out.trans (((Fr.one _ p 1 (.int .i64 ((j : Int) + (z.size : Int)))).trans HF6.out).trans (Fr.one _ p 1 (.int .i64 (j : Int)))))
        have HCC := Lib.hid (HC.out _ _ _ _ _ c HI7.out)
        go_upto_region 21 with (first
          | (go_at_call 14; (with_reducible refine (rletter_any _ _).mono ?_); rintro e w' ⟨rfl, rfl⟩)
          | (go_at_call 19; (with_reducible refine HCC.out.mono ?_); rintro e w4 ⟨v, k4, d4, sv4, o4, form4, err4, R, rfl, hv, hI4, hF4, hk4, ho4, hP, hR⟩))
        have HV := Lib.hid hv
        have hk4s := hI4.2.2.2.2.2.2.1
        have HI4 := Lib.hid hI4
        have HF4 := Lib.hid hF4
        have HP := Lib.hid hP
        obtain ⟨c0, c1, c2, c3, c4, c5, c6, fz⟩ := hI4.1.cells
        have f2 := fz 2
        clear hv hI4 hF4 hP c0 c1 c3 c4 c5 c6 fz
        have HPA : Hid (PR .asg d (tokX (s.data.toList.drop k)) R) := Lib.hid (by rw [HT.out]; exact PR.asg_cho hd HNA.out HP.out)
        rcases R with _ | ⟨n, r⟩
        · obtain ⟨rfl, hd4, hd4'⟩ := hR
          obtain ⟨d8, rfl⟩ : ∃ d8, d4 = d8 + 1 := ⟨d4 - 1, by omega⟩
          go_wp2
          go_ret
          exact ⟨v, k4, d8, sv4, o4, true, err4, none, rfl, HV.out, HI4.out.step (Fr.one _ _ _ _) (HI4.out.1.setDeepI _ d8 (by omega)) hk4s (Nat.le_refl _), (HF7.out.up.trans HF4.out).trans (Fr.one _ _ _ _).up, by omega, by omega, HPA.out, rfl, by omega, by omega⟩
        · obtain ⟨rfl, rfl, hr, hev⟩ := hR
          have HR := Lib.hid hr
          have HE := Lib.hid hev
          clear hr hev
          go_wp2
          go_ret
          exact ⟨v, k4, d, sv4, o4, false, err4, some (n, r), rfl, HV.out, HI4.out.step (Fr.one _ _ _ _) (HI4.out.1.setDeepI _ d (by omega)) hk4s (Nat.le_refl _), (HF7.out.up.trans HF4.out).trans (Fr.one _ _ _ _).up, by omega, by omega, HPA.out, rfl, rfl, HR.out, HE.out⟩
      · rw [show st [62, 62] = (⟨#[62, 62]⟩ : ByteArray) from rfl]
        go_upto_region 20 with (fail)
        have HI7 := Lib.hid (HI3.out.step (((Fr.one _ p 1 (.int .i64 ((j : Int) + (z.size : Int)))).trans HF6.out).trans (Fr.one _ p 1 (.int .i64 (j : Int)))) (HI6.out.1.setAt j) hj (Nat.le_refl _))
        have HF7 := Lib.hid (HF3.out.trans (((Fr.one _ p 1 (.int .i64 ((j : Int) + (z.size : Int)))).trans HF6.out).trans (Fr.one _ p 1 (.int .i64 (j : Int)))))
        have HCC := Lib.hid (HC.out _ _ _ _ _ c HI7.out)
        go_upto_region 21 with (first
          | (go_at_call 14; (with_reducible refine (rletter_any _ _).mono ?_); rintro e w' ⟨rfl, rfl⟩)
          | (go_at_call 19; (with_reducible refine HCC.out.mono ?_); rintro e w4 ⟨v, k4, d4, sv4, o4, form4, err4, R, rfl, hv, hI4, hF4, hk4, ho4, hP, hR⟩))
        have HV := Lib.hid hv
        have hk4s := hI4.2.2.2.2.2.2.1
        have HI4 := Lib.hid hI4
        have HF4 := Lib.hid hF4
        have HP := Lib.hid hP
        obtain ⟨c0, c1, c2, c3, c4, c5, c6, fz⟩ := hI4.1.cells
        have f2 := fz 2
        clear hv hI4 hF4 hP c0 c1 c3 c4 c5 c6 fz
        have HPA : Hid (PR .asg d (tokX (s.data.toList.drop k)) R) := Lib.hid (by rw [HT.out]; exact PR.asg_cho hd HNA.out HP.out)
        rcases R with _ | ⟨n, r⟩
        · obtain ⟨rfl, hd4, hd4'⟩ := hR
          obtain ⟨d8, rfl⟩ : ∃ d8, d4 = d8 + 1 := ⟨d4 - 1, by omega⟩
          go_wp2
          go_ret
          exact ⟨v, k4, d8, sv4, o4, true, err4, none, rfl, HV.out, HI4.out.step (Fr.one _ _ _ _) (HI4.out.1.setDeepI _ d8 (by omega)) hk4s (Nat.le_refl _), (HF7.out.up.trans HF4.out).trans (Fr.one _ _ _ _).up, by omega, by omega, HPA.out, rfl, by omega, by omega⟩
        · obtain ⟨rfl, rfl, hr, hev⟩ := hR
          have HR := Lib.hid hr
          have HE := Lib.hid hev
          clear hr hev
          go_wp2
          go_ret
          exact ⟨v, k4, d, sv4, o4, false, err4, some (n, r), rfl, HV.out, HI4.out.step (Fr.one _ _ _ _) (HI4.out.1.setDeepI _ d (by omega)) hk4s (Nat.le_refl _), (HF7.out.up.trans HF4.out).trans (Fr.one _ _ _ _).up, by omega, by omega, HPA.out, rfl, rfl, HR.out, HE.out⟩
      · rw [show st [43] = (⟨#[43]⟩ : ByteArray) from rfl]
        go_upto_region 20 with (fail)
        have HI7 := Lib.hid (HI3.out.step (((Fr.one _ p 1 (.int .i64 ((j : Int) + (z.size : Int)))).trans HF6.out).trans (Fr.one _ p 1 (.int .i64 (j : Int)))) (HI6.out.1.setAt j) hj (Nat.le_refl _))
        have HF7 := Lib.hid (HF3.out.trans (((Fr.one _ p 1 (.int .i64 ((j : Int) + (z.size : Int)))).trans HF6.out).trans (Fr.one _ p 1 (.int .i64 (j : Int)))))
        have HCC := Lib.hid (HC.out _ _ _ _ _ c HI7.out)
        go_upto_region 21 with (first
          | (go_at_call 14; (with_reducible refine (rletter_any _ _).mono ?_); rintro e w' ⟨rfl, rfl⟩)
          | (go_at_call 19; (with_reducible refine HCC.out.mono ?_); rintro e w4 ⟨v, k4, d4, sv4, o4, form4, err4, R, rfl, hv, hI4, hF4, hk4, ho4, hP, hR⟩))
        have HV := Lib.hid hv
        have hk4s := hI4.2.2.2.2.2.2.1
        have HI4 := Lib.hid hI4
        have HF4 := Lib.hid hF4
        have HP := Lib.hid hP
        obtain ⟨c0, c1, c2, c3, c4, c5, c6, fz⟩ := hI4.1.cells
        have f2 := fz 2
        clear hv hI4 hF4 hP c0 c1 c3 c4 c5 c6 fz
        have HPA : Hid (PR .asg d (tokX (s.data.toList.drop k)) R) := Lib.hid (by rw [HT.out]; exact PR.asg_cho hd HNA.out HP.out)
        rcases R with _ | ⟨n, r⟩
        · obtain ⟨rfl, hd4, hd4'⟩ := hR
          obtain ⟨d8, rfl⟩ : ∃ d8, d4 = d8 + 1 := ⟨d4 - 1, by omega⟩
          go_wp2
          go_ret
          exact ⟨v, k4, d8, sv4, o4, true, err4, none, rfl, HV.out, HI4.out.step (Fr.one _ _ _ _) (HI4.out.1.setDeepI _ d8 (by omega)) hk4s (Nat.le_refl _), (HF7.out.up.trans HF4.out).trans (Fr.one _ _ _ _).up, by omega, by omega, HPA.out, rfl, by omega, by omega⟩
        · obtain ⟨rfl, rfl, hr, hev⟩ := hR
          have HR := Lib.hid hr
          have HE := Lib.hid hev
          clear hr hev
          go_wp2
          go_ret
          exact ⟨v, k4, d, sv4, o4, false, err4, some (n, r), rfl, HV.out, HI4.out.step (Fr.one _ _ _ _) (HI4.out.1.setDeepI _ d (by omega)) hk4s (Nat.le_refl _), (HF7.out.up.trans HF4.out).trans (Fr.one _ _ _ _).up, by omega, by omega, HPA.out, rfl, rfl, HR.out, HE.out⟩
      · rw [show st [45] = (⟨#[45]⟩ : ByteArray) from rfl]
        go_upto_region 20 with (fail)
        have HI7 := Lib.hid (HI3.out.step (((Fr.one _ p 1 (.int .i64 ((j : Int) + (z.size : Int)))).trans HF6.out).trans (Fr.one _ p 1 (.int .i64 (j : Int)))) (HI6.out.1.setAt j) hj (Nat.le_refl _))
        have HF7 := Lib.hid (HF3.out.trans (((Fr.one _ p 1 (.int .i64 ((j : Int) + (z.size : Int)))).trans HF6.out).trans (Fr.one _ p 1 (.int .i64 (j : Int)))))
        have HCC := Lib.hid (HC.out _ _ _ _ _ c HI7.out)
        go_upto_region 21 with (first
          | (go_at_call 14; (with_reducible refine (rletter_any _ _).mono ?_); rintro e w' ⟨rfl, rfl⟩)
          | (go_at_call 19; (with_reducible refine HCC.out.mono ?_); rintro e w4 ⟨v, k4, d4, sv4, o4, form4, err4, R, rfl, hv, hI4, hF4, hk4, ho4, hP, hR⟩))
        have HV := Lib.hid hv
        have hk4s := hI4.2.2.2.2.2.2.1
        have HI4 := Lib.hid hI4
        have HF4 := Lib.hid hF4
        have HP := Lib.hid hP
        obtain ⟨c0, c1, c2, c3, c4, c5, c6, fz⟩ := hI4.1.cells
        have f2 := fz 2
        clear hv hI4 hF4 hP c0 c1 c3 c4 c5 c6 fz
        have HPA : Hid (PR .asg d (tokX (s.data.toList.drop k)) R) := Lib.hid (by rw [HT.out]; exact PR.asg_cho hd HNA.out HP.out)
        rcases R with _ | ⟨n, r⟩
        · obtain ⟨rfl, hd4, hd4'⟩ := hR
          obtain ⟨d8, rfl⟩ : ∃ d8, d4 = d8 + 1 := ⟨d4 - 1, by omega⟩
          go_wp2
          go_ret
          exact ⟨v, k4, d8, sv4, o4, true, err4, none, rfl, HV.out, HI4.out.step (Fr.one _ _ _ _) (HI4.out.1.setDeepI _ d8 (by omega)) hk4s (Nat.le_refl _), (HF7.out.up.trans HF4.out).trans (Fr.one _ _ _ _).up, by omega, by omega, HPA.out, rfl, by omega, by omega⟩
        · obtain ⟨rfl, rfl, hr, hev⟩ := hR
          have HR := Lib.hid hr
          have HE := Lib.hid hev
          clear hr hev
          go_wp2
          go_ret
          exact ⟨v, k4, d, sv4, o4, false, err4, some (n, r), rfl, HV.out, HI4.out.step (Fr.one _ _ _ _) (HI4.out.1.setDeepI _ d (by omega)) hk4s (Nat.le_refl _), (HF7.out.up.trans HF4.out).trans (Fr.one _ _ _ _).up, by omega, by omega, HPA.out, rfl, rfl, HR.out, HE.out⟩
      · rw [show st [42] = (⟨#[42]⟩ : ByteArray) from rfl]
        go_upto_region 20 with (fail)
        have HI7 := Lib.hid (HI3.out.step (((Fr.one _ p 1 (.int .i64 ((j : Int) + (z.size : Int)))).trans HF6.out).trans (Fr.one _ p 1 (.int .i64 (j : Int)))) (HI6.out.1.setAt j) hj (Nat.le_refl _))
        have HF7 := Lib.hid (HF3.out.trans (((Fr.one _ p 1 (.int .i64 ((j : Int) + (z.size : Int)))).trans HF6.out).trans (Fr.one _ p 1 (.int .i64 (j : Int)))))
        have HCC := Lib.hid (HC.out _ _ _ _ _ c HI7.out)
        go_upto_region 21 with (first
          | (go_at_call 14; (with_reducible refine (rletter_any _ _).mono ?_); rintro e w' ⟨rfl, rfl⟩)
          | (go_at_call 19; (with_reducible refine HCC.out.mono ?_); rintro e w4 ⟨v, k4, d4, sv4, o4, form4, err4, R, rfl, hv, hI4, hF4, hk4, ho4, hP, hR⟩))
        have HV := Lib.hid hv
        have hk4s := hI4.2.2.2.2.2.2.1
        have HI4 := Lib.hid hI4
        have HF4 := Lib.hid hF4
        have HP := Lib.hid hP
        obtain ⟨c0, c1, c2, c3, c4, c5, c6, fz⟩ := hI4.1.cells
        have f2 := fz 2
        clear hv hI4 hF4 hP c0 c1 c3 c4 c5 c6 fz
        have HPA : Hid (PR .asg d (tokX (s.data.toList.drop k)) R) := Lib.hid (by rw [HT.out]; exact PR.asg_cho hd HNA.out HP.out)
        rcases R with _ | ⟨n, r⟩
        · obtain ⟨rfl, hd4, hd4'⟩ := hR
          obtain ⟨d8, rfl⟩ : ∃ d8, d4 = d8 + 1 := ⟨d4 - 1, by omega⟩
          go_wp2
          go_ret
          exact ⟨v, k4, d8, sv4, o4, true, err4, none, rfl, HV.out, HI4.out.step (Fr.one _ _ _ _) (HI4.out.1.setDeepI _ d8 (by omega)) hk4s (Nat.le_refl _), (HF7.out.up.trans HF4.out).trans (Fr.one _ _ _ _).up, by omega, by omega, HPA.out, rfl, by omega, by omega⟩
        · obtain ⟨rfl, rfl, hr, hev⟩ := hR
          have HR := Lib.hid hr
          have HE := Lib.hid hev
          clear hr hev
          go_wp2
          go_ret
          exact ⟨v, k4, d, sv4, o4, false, err4, some (n, r), rfl, HV.out, HI4.out.step (Fr.one _ _ _ _) (HI4.out.1.setDeepI _ d (by omega)) hk4s (Nat.le_refl _), (HF7.out.up.trans HF4.out).trans (Fr.one _ _ _ _).up, by omega, by omega, HPA.out, rfl, rfl, HR.out, HE.out⟩
      · rw [show st [47] = (⟨#[47]⟩ : ByteArray) from rfl]
        go_upto_region 20 with (fail)
        have HI7 := Lib.hid (HI3.out.step (((Fr.one _ p 1 (.int .i64 ((j : Int) + (z.size : Int)))).trans HF6.out).trans (Fr.one _ p 1 (.int .i64 (j : Int)))) (HI6.out.1.setAt j) hj (Nat.le_refl _))
        have HF7 := Lib.hid (HF3.out.trans (((Fr.one _ p 1 (.int .i64 ((j : Int) + (z.size : Int)))).trans HF6.out).trans (Fr.one _ p 1 (.int .i64 (j : Int)))))
        have HCC := Lib.hid (HC.out _ _ _ _ _ c HI7.out)
        go_upto_region 21 with (first
          | (go_at_call 14; (with_reducible refine (rletter_any _ _).mono ?_); rintro e w' ⟨rfl, rfl⟩)
          | (go_at_call 19; (with_reducible refine HCC.out.mono ?_); rintro e w4 ⟨v, k4, d4, sv4, o4, form4, err4, R, rfl, hv, hI4, hF4, hk4, ho4, hP, hR⟩))
        have HV := Lib.hid hv
        have hk4s := hI4.2.2.2.2.2.2.1
        have HI4 := Lib.hid hI4
        have HF4 := Lib.hid hF4
        have HP := Lib.hid hP
        obtain ⟨c0, c1, c2, c3, c4, c5, c6, fz⟩ := hI4.1.cells
        have f2 := fz 2
        clear hv hI4 hF4 hP c0 c1 c3 c4 c5 c6 fz
        have HPA : Hid (PR .asg d (tokX (s.data.toList.drop k)) R) := Lib.hid (by rw [HT.out]; exact PR.asg_cho hd HNA.out HP.out)
        rcases R with _ | ⟨n, r⟩
        · obtain ⟨rfl, hd4, hd4'⟩ := hR
          obtain ⟨d8, rfl⟩ : ∃ d8, d4 = d8 + 1 := ⟨d4 - 1, by omega⟩
          go_wp2
          go_ret
          exact ⟨v, k4, d8, sv4, o4, true, err4, none, rfl, HV.out, HI4.out.step (Fr.one _ _ _ _) (HI4.out.1.setDeepI _ d8 (by omega)) hk4s (Nat.le_refl _), (HF7.out.up.trans HF4.out).trans (Fr.one _ _ _ _).up, by omega, by omega, HPA.out, rfl, by omega, by omega⟩
        · obtain ⟨rfl, rfl, hr, hev⟩ := hR
          have HR := Lib.hid hr
          have HE := Lib.hid hev
          clear hr hev
          go_wp2
          go_ret
          exact ⟨v, k4, d, sv4, o4, false, err4, some (n, r), rfl, HV.out, HI4.out.step (Fr.one _ _ _ _) (HI4.out.1.setDeepI _ d (by omega)) hk4s (Nat.le_refl _), (HF7.out.up.trans HF4.out).trans (Fr.one _ _ _ _).up, by omega, by omega, HPA.out, rfl, rfl, HR.out, HE.out⟩
      · rw [show st [37] = (⟨#[37]⟩ : ByteArray) from rfl]
        go_upto_region 20 with (fail)
        have HI7 := Lib.hid (HI3.out.step (((Fr.one _ p 1 (.int .i64 ((j : Int) + (z.size : Int)))).trans HF6.out).trans (Fr.one _ p 1 (.int .i64 (j : Int)))) (HI6.out.1.setAt j) hj (Nat.le_refl _))
        have HF7 := Lib.hid (HF3.out.trans (((Fr.one _ p 1 (.int .i64 ((j : Int) + (z.size : Int)))).trans HF6.out).trans (Fr.one _ p 1 (.int .i64 (j : Int)))))
        have HCC := Lib.hid (HC.out _ _ _ _ _ c HI7.out)
        go_upto_region 21 with (first
          | (go_at_call 14; (with_reducible refine (rletter_any _ _).mono ?_); rintro e w' ⟨rfl, rfl⟩)
          | (go_at_call 19; (with_reducible refine HCC.out.mono ?_); rintro e w4 ⟨v, k4, d4, sv4, o4, form4, err4, R, rfl, hv, hI4, hF4, hk4, ho4, hP, hR⟩))
        have HV := Lib.hid hv
        have hk4s := hI4.2.2.2.2.2.2.1
        have HI4 := Lib.hid hI4
        have HF4 := Lib.hid hF4
        have HP := Lib.hid hP
        obtain ⟨c0, c1, c2, c3, c4, c5, c6, fz⟩ := hI4.1.cells
        have f2 := fz 2
        clear hv hI4 hF4 hP c0 c1 c3 c4 c5 c6 fz
        have HPA : Hid (PR .asg d (tokX (s.data.toList.drop k)) R) := Lib.hid (by rw [HT.out]; exact PR.asg_cho hd HNA.out HP.out)
        rcases R with _ | ⟨n, r⟩
        · obtain ⟨rfl, hd4, hd4'⟩ := hR
          obtain ⟨d8, rfl⟩ : ∃ d8, d4 = d8 + 1 := ⟨d4 - 1, by omega⟩
          go_wp2
          go_ret
          exact ⟨v, k4, d8, sv4, o4, true, err4, none, rfl, HV.out, HI4.out.step (Fr.one _ _ _ _) (HI4.out.1.setDeepI _ d8 (by omega)) hk4s (Nat.le_refl _), (HF7.out.up.trans HF4.out).trans (Fr.one _ _ _ _).up, by omega, by omega, HPA.out, rfl, by omega, by omega⟩
        · obtain ⟨rfl, rfl, hr, hev⟩ := hR
          have HR := Lib.hid hr
          have HE := Lib.hid hev
          clear hr hev
          go_wp2
          go_ret
          exact ⟨v, k4, d, sv4, o4, false, err4, some (n, r), rfl, HV.out, HI4.out.step (Fr.one _ _ _ _) (HI4.out.1.setDeepI _ d (by omega)) hk4s (Nat.le_refl _), (HF7.out.up.trans HF4.out).trans (Fr.one _ _ _ _).up, by omega, by omega, HPA.out, rfl, rfl, HR.out, HE.out⟩
      · rw [show st [126] = (⟨#[126]⟩ : ByteArray) from rfl]
        go_upto_region 20 with (fail)
        have HI7 := Lib.hid (HI3.out.step (((Fr.one _ p 1 (.int .i64 ((j : Int) + (z.size : Int)))).trans HF6.out).trans (Fr.one _ p 1 (.int .i64 (j : Int)))) (HI6.out.1.setAt j) hj (Nat.le_refl _))
        have HF7 := Lib.hid (HF3.out.trans (((Fr.one _ p 1 (.int .i64 ((j : Int) + (z.size : Int)))).trans HF6.out).trans (Fr.one _ p 1 (.int .i64 (j : Int)))))
        have HCC := Lib.hid (HC.out _ _ _ _ _ c HI7.out)
        go_upto_region 21 with (first
          | (go_at_call 14; (with_reducible refine (rletter_any _ _).mono ?_); rintro e w' ⟨rfl, rfl⟩)
          | (go_at_call 19; (with_reducible refine HCC.out.mono ?_); rintro e w4 ⟨v, k4, d4, sv4, o4, form4, err4, R, rfl, hv, hI4, hF4, hk4, ho4, hP, hR⟩))
        have HV := Lib.hid hv
        have hk4s := hI4.2.2.2.2.2.2.1
        have HI4 := Lib.hid hI4
        have HF4 := Lib.hid hF4
        have HP := Lib.hid hP
        obtain ⟨c0, c1, c2, c3, c4, c5, c6, fz⟩ := hI4.1.cells
        have f2 := fz 2
        clear hv hI4 hF4 hP c0 c1 c3 c4 c5 c6 fz
        have HPA : Hid (PR .asg d (tokX (s.data.toList.drop k)) R) := Lib.hid (by rw [HT.out]; exact PR.asg_cho hd HNA.out HP.out)
        rcases R with _ | ⟨n, r⟩
        · obtain ⟨rfl, hd4, hd4'⟩ := hR
          obtain ⟨d8, rfl⟩ : ∃ d8, d4 = d8 + 1 := ⟨d4 - 1, by omega⟩
          go_wp2
          go_ret
          exact ⟨v, k4, d8, sv4, o4, true, err4, none, rfl, HV.out, HI4.out.step (Fr.one _ _ _ _) (HI4.out.1.setDeepI _ d8 (by omega)) hk4s (Nat.le_refl _), (HF7.out.up.trans HF4.out).trans (Fr.one _ _ _ _).up, by omega, by omega, HPA.out, rfl, by omega, by omega⟩
        · obtain ⟨rfl, rfl, hr, hev⟩ := hR
          have HR := Lib.hid hr
          have HE := Lib.hid hev
          clear hr hev
          go_wp2
          go_ret
          exact ⟨v, k4, d, sv4, o4, false, err4, some (n, r), rfl, HV.out, HI4.out.step (Fr.one _ _ _ _) (HI4.out.1.setDeepI _ d (by omega)) hk4s (Nat.le_refl _), (HF7.out.up.trans HF4.out).trans (Fr.one _ _ _ _).up, by omega, by omega, HPA.out, rfl, rfl, HR.out, HE.out⟩
      · rw [show st [33] = (⟨#[33]⟩ : ByteArray) from rfl]
        go_upto_region 20 with (fail)
        have HI7 := Lib.hid (HI3.out.step (((Fr.one _ p 1 (.int .i64 ((j : Int) + (z.size : Int)))).trans HF6.out).trans (Fr.one _ p 1 (.int .i64 (j : Int)))) (HI6.out.1.setAt j) hj (Nat.le_refl _))
        have HF7 := Lib.hid (HF3.out.trans (((Fr.one _ p 1 (.int .i64 ((j : Int) + (z.size : Int)))).trans HF6.out).trans (Fr.one _ p 1 (.int .i64 (j : Int)))))
        have HCC := Lib.hid (HC.out _ _ _ _ _ c HI7.out)
        go_upto_region 21 with (first
          | (go_at_call 14; (with_reducible refine (rletter_any _ _).mono ?_); rintro e w' ⟨rfl, rfl⟩)
          | (go_at_call 19; (with_reducible refine HCC.out.mono ?_); rintro e w4 ⟨v, k4, d4, sv4, o4, form4, err4, R, rfl, hv, hI4, hF4, hk4, ho4, hP, hR⟩))
        have HV := Lib.hid hv
        have hk4s := hI4.2.2.2.2.2.2.1
        have HI4 := Lib.hid hI4
        have HF4 := Lib.hid hF4
        have HP := Lib.hid hP
        obtain ⟨c0, c1, c2, c3, c4, c5, c6, fz⟩ := hI4.1.cells
        have f2 := fz 2
        clear hv hI4 hF4 hP c0 c1 c3 c4 c5 c6 fz
        have HPA : Hid (PR .asg d (tokX (s.data.toList.drop k)) R) := Lib.hid (by rw [HT.out]; exact PR.asg_cho hd HNA.out HP.out)
        rcases R with _ | ⟨n, r⟩
        · obtain ⟨rfl, hd4, hd4'⟩ := hR
          obtain ⟨d8, rfl⟩ : ∃ d8, d4 = d8 + 1 := ⟨d4 - 1, by omega⟩
          go_wp2
          go_ret
          exact ⟨v, k4, d8, sv4, o4, true, err4, none, rfl, HV.out, HI4.out.step (Fr.one _ _ _ _) (HI4.out.1.setDeepI _ d8 (by omega)) hk4s (Nat.le_refl _), (HF7.out.up.trans HF4.out).trans (Fr.one _ _ _ _).up, by omega, by omega, HPA.out, rfl, by omega, by omega⟩
        · obtain ⟨rfl, rfl, hr, hev⟩ := hR
          have HR := Lib.hid hr
          have HE := Lib.hid hev
          clear hr hev
          go_wp2
          go_ret
          exact ⟨v, k4, d, sv4, o4, false, err4, some (n, r), rfl, HV.out, HI4.out.step (Fr.one _ _ _ _) (HI4.out.1.setDeepI _ d (by omega)) hk4s (Nat.le_refl _), (HF7.out.up.trans HF4.out).trans (Fr.one _ _ _ _).up, by omega, by omega, HPA.out, rfl, rfl, HR.out, HE.out⟩
      · rw [show st [40] = (⟨#[40]⟩ : ByteArray) from rfl]
        go_upto_region 20 with (fail)
        have HI7 := Lib.hid (HI3.out.step (((Fr.one _ p 1 (.int .i64 ((j : Int) + (z.size : Int)))).trans HF6.out).trans (Fr.one _ p 1 (.int .i64 (j : Int)))) (HI6.out.1.setAt j) hj (Nat.le_refl _))
        have HF7 := Lib.hid (HF3.out.trans (((Fr.one _ p 1 (.int .i64 ((j : Int) + (z.size : Int)))).trans HF6.out).trans (Fr.one _ p 1 (.int .i64 (j : Int)))))
        have HCC := Lib.hid (HC.out _ _ _ _ _ c HI7.out)
        go_upto_region 21 with (first
          | (go_at_call 14; (with_reducible refine (rletter_any _ _).mono ?_); rintro e w' ⟨rfl, rfl⟩)
          | (go_at_call 19; (with_reducible refine HCC.out.mono ?_); rintro e w4 ⟨v, k4, d4, sv4, o4, form4, err4, R, rfl, hv, hI4, hF4, hk4, ho4, hP, hR⟩))
        have HV := Lib.hid hv
        have hk4s := hI4.2.2.2.2.2.2.1
        have HI4 := Lib.hid hI4
        have HF4 := Lib.hid hF4
        have HP := Lib.hid hP
        obtain ⟨c0, c1, c2, c3, c4, c5, c6, fz⟩ := hI4.1.cells
        have f2 := fz 2
        clear hv hI4 hF4 hP c0 c1 c3 c4 c5 c6 fz
        have HPA : Hid (PR .asg d (tokX (s.data.toList.drop k)) R) := Lib.hid (by rw [HT.out]; exact PR.asg_cho hd HNA.out HP.out)
        rcases R with _ | ⟨n, r⟩
        · obtain ⟨rfl, hd4, hd4'⟩ := hR
          obtain ⟨d8, rfl⟩ : ∃ d8, d4 = d8 + 1 := ⟨d4 - 1, by omega⟩
          go_wp2
          go_ret
          exact ⟨v, k4, d8, sv4, o4, true, err4, none, rfl, HV.out, HI4.out.step (Fr.one _ _ _ _) (HI4.out.1.setDeepI _ d8 (by omega)) hk4s (Nat.le_refl _), (HF7.out.up.trans HF4.out).trans (Fr.one _ _ _ _).up, by omega, by omega, HPA.out, rfl, by omega, by omega⟩
        · obtain ⟨rfl, rfl, hr, hev⟩ := hR
          have HR := Lib.hid hr
          have HE := Lib.hid hev
          clear hr hev
          go_wp2
          go_ret
          exact ⟨v, k4, d, sv4, o4, false, err4, some (n, r), rfl, HV.out, HI4.out.step (Fr.one _ _ _ _) (HI4.out.1.setDeepI _ d (by omega)) hk4s (Nat.le_refl _), (HF7.out.up.trans HF4.out).trans (Fr.one _ _ _ _).up, by omega, by omega, HPA.out, rfl, rfl, HR.out, HE.out⟩
      · rw [show st [41] = (⟨#[41]⟩ : ByteArray) from rfl]
        go_upto_region 20 with (fail)
        have HI7 := Lib.hid (HI3.out.step (((Fr.one _ p 1 (.int .i64 ((j : Int) + (z.size : Int)))).trans HF6.out).trans (Fr.one _ p 1 (.int .i64 (j : Int)))) (HI6.out.1.setAt j) hj (Nat.le_refl _))
        have HF7 := Lib.hid (HF3.out.trans (((Fr.one _ p 1 (.int .i64 ((j : Int) + (z.size : Int)))).trans HF6.out).trans (Fr.one _ p 1 (.int .i64 (j : Int)))))
        have HCC := Lib.hid (HC.out _ _ _ _ _ c HI7.out)
        go_upto_region 21 with (first
          | (go_at_call 14; (with_reducible refine (rletter_any _ _).mono ?_); rintro e w' ⟨rfl, rfl⟩)
          | (go_at_call 19; (with_reducible refine HCC.out.mono ?_); rintro e w4 ⟨v, k4, d4, sv4, o4, form4, err4, R, rfl, hv, hI4, hF4, hk4, ho4, hP, hR⟩))
        have HV := Lib.hid hv
        have hk4s := hI4.2.2.2.2.2.2.1
        have HI4 := Lib.hid hI4
        have HF4 := Lib.hid hF4
        have HP := Lib.hid hP
        obtain ⟨c0, c1, c2, c3, c4, c5, c6, fz⟩ := hI4.1.cells
        have f2 := fz 2
        clear hv hI4 hF4 hP c0 c1 c3 c4 c5 c6 fz
        have HPA : Hid (PR .asg d (tokX (s.data.toList.drop k)) R) := Lib.hid (by rw [HT.out]; exact PR.asg_cho hd HNA.out HP.out)
        rcases R with _ | ⟨n, r⟩
        · obtain ⟨rfl, hd4, hd4'⟩ := hR
          obtain ⟨d8, rfl⟩ : ∃ d8, d4 = d8 + 1 := ⟨d4 - 1, by omega⟩
          go_wp2
          go_ret
          exact ⟨v, k4, d8, sv4, o4, true, err4, none, rfl, HV.out, HI4.out.step (Fr.one _ _ _ _) (HI4.out.1.setDeepI _ d8 (by omega)) hk4s (Nat.le_refl _), (HF7.out.up.trans HF4.out).trans (Fr.one _ _ _ _).up, by omega, by omega, HPA.out, rfl, by omega, by omega⟩
        · obtain ⟨rfl, rfl, hr, hev⟩ := hR
          have HR := Lib.hid hr
          have HE := Lib.hid hev
          clear hr hev
          go_wp2
          go_ret
          exact ⟨v, k4, d, sv4, o4, false, err4, some (n, r), rfl, HV.out, HI4.out.step (Fr.one _ _ _ _) (HI4.out.1.setDeepI _ d (by omega)) hk4s (Nat.le_refl _), (HF7.out.up.trans HF4.out).trans (Fr.one _ _ _ _).up, by omega, by omega, HPA.out, rfl, rfl, HR.out, HE.out⟩
    | true =>
      obtain ⟨u1, u2, u3, u4, u5⟩ := asg_sgn sg hna
      have HTS := tail_sg (x := s.data.toList.drop j6) HXX6.out (by rw [HSGX.out]; exact u5)
      have HLS := (sg_head (x := s.data.toList.drop j6) (by rw [HSGX.out]; exact u5)).2.2.2.2.2.2.2.2
      rw [HSGX.out, List.length_drop, size_len] at HLS
      rw [HSGX.out, List.drop_drop] at HTS
      have HTK := Lib.hid (show tokX (s.data.toList.drop k) = wd :: sg :: tokX (s.data.toList.drop (j6 + sg.length)) by rw [HT.out, HTW.out, HT6.out, HTS])
      have hfin : sg ∈ assignL := by unfold isAsg at hna; simpa using hna
      clear hna HXX6 HSGX c1 f1 u1 u2 u3 u4 u5 HTS HT HTW HT6 HWDX HXX
      obtain ⟨c0, c1, c2, c3, c4, c5, c6, fz⟩ := HI6.out.1.cells
      have f1 := fz 1
      clear c0 c2 c3 c4 c5 c6 fz
      unfold assignL at hfin
      simp only [List.mem_cons, List.not_mem_nil, or_false] at hfin
      rcases hfin with rfl | rfl | rfl | rfl | rfl | rfl | rfl | rfl | rfl | rfl | rfl
      · rw [show st [61] = (⟨#[61]⟩ : ByteArray) from rfl]
        go_upto_region 12 with (fail)
        have HI7 := Lib.hid (HI6.out.step (Fr.one _ p 1 (.int .i64 ((j6 : Int) + 1))) (HI6.out.1.setAtI _ (j6 + 1) (by omega)) (show j6 + 1 ≤ s.size by simp at HLS; omega) (by omega))
        have HF7 := Lib.hid (HF3.out.trans (((Fr.one _ p 1 (.int .i64 ((j : Int) + (z.size : Int)))).trans HF6.out).trans (Fr.one _ p 1 (.int .i64 ((j6 : Int) + 1)))))
        have HSS := Lib.hid (HS.out _ _ _ _ _ c HI7.out)
        go_upto_region 15 with (first
          | (go_at_call 9; (with_reducible refine HSS.out.mono ?_); rintro e w8 ⟨v, k8, d8, sv8, o8, form8, err8, R, rfl, hv, hI8, hF8, hk8, ho8, hP, hR⟩))
        obtain ⟨d9, rfl, hd9⟩ := hR.lift hd
        have HV := Lib.hid hv
        have HR := Lib.hid hR
        have HI8 := Lib.hid hI8
        have HP := Lib.hid hP
        have hk8s := hI8.2.2.2.2.2.2.1
        have HF8 := Lib.hid (HF7.out.up.trans hF8)
        have HO8 := Lib.hid ho8
        have H00 := Lib.hid (show o.length ≤ k from H0L.out)
        clear c1 f1 HSS
        obtain ⟨c0, c1, c2, c3, c4, c5, c6, fz⟩ := hI8.1.cells
        have f2 := fz 2
        have HI10 := Lib.hid hI8
        have HFa := Lib.hid HF8.out
        have HEV := Lib.hid (fun n (h : evC g n (o, err) c = (v, (o8, err8))) => (show evC g (.asg wd [] n) (o, err) c = (v, if c = true ∧ err8 = 0 then (setV o8 wd v, 0) else (o8, err8)) from by
          rw [evC, h]
          dsimp only
          rw [if_pos rfl, if_pos rfl]))
        clear c0 c1 c3 c4 c5 fz hv hR hI8 hP hF8 ho8 HLS
        cases c with
        | false =>
          have HNO : Hid (¬ (false = true ∧ err8 = 0)) := Lib.hid (fun h => by cases h.1)
          go_wp2
          go_ret
          exact sets_end hd HN.out (by decide) HTK.out HP.out HR.out (HFa.out.trans (Fr.one _ _ _ _).up) HV.out (HI10.out.step (Fr.one _ _ _ _) (HI10.out.1.setDeepI _ d9 (by omega)) hk8s (Nat.le_refl _)) (by omega) (by have := HO8.out; omega) (fun n h => by rw [show ([61] : Bs).dropLast = [] from rfl, HEV.out n h, if_neg HNO.out])
        | true =>
          by_cases he : err8 = 0
          · subst he
            have HST := Lib.hid (rstore_any w8 p s k8 (d9 + 1) gv sv8 o8 form8 0 wd v HV.out (by have := HI8.out.2.2.2.2.2.2.2; omega) HI10.out.2.2.2.1 HI10.out.1)
            rw [HZ.out] at HST
            clear c2 f2
            go_upto_region 17 with (first
              | (go_at_call 18; (with_reducible refine HST.out.mono ?_); rintro e w11 ⟨rfl, sv11, hR11, hS11, hF11⟩))
            obtain ⟨c0, c1, c2, c3, c4, c5, c6, fz⟩ := hR11.cells
            have f2 := fz 2
            have HI11 := Lib.hid (HI10.out.stored HV.out (by have := HO8.out; have := H00.out; omega) hR11 hS11 hF11)
            have HFb := Lib.hid (HFa.out.trans hF11)
            clear c0 c1 c3 c4 c5 c6 fz hR11 hS11 hF11
            go_wp2
            go_ret
            exact sets_end hd HN.out (by decide) HTK.out HP.out HR.out (HFb.out.trans (Fr.one _ _ _ _).up) HV.out (HI11.out.step (Fr.one _ _ _ _) (HI11.out.1.setDeepI _ d9 (by omega)) hk8s (Nat.le_refl _)) (by omega) (by have := HO8.out; have := setV_len o8 wd v; omega) (fun n h => by rw [show ([61] : Bs).dropLast = [] from rfl, HEV.out n h, if_pos (by simp)])
          · have HNO : Hid (¬ (true = true ∧ err8 = 0)) := Lib.hid (fun h => he h.2)
            have g15 : (err8 == 0) = false := by simpa using he
            clear he
            go_wp2
            go_ret
            exact sets_end hd HN.out (by decide) HTK.out HP.out HR.out (HFa.out.trans (Fr.one _ _ _ _).up) HV.out (HI10.out.step (Fr.one _ _ _ _) (HI10.out.1.setDeepI _ d9 (by omega)) hk8s (Nat.le_refl _)) (by omega) (by have := HO8.out; omega) (fun n h => by rw [show ([61] : Bs).dropLast = [] from rfl, HEV.out n h, if_neg HNO.out])
      · rw [show st [42, 61] = (⟨#[42, 61]⟩ : ByteArray) from rfl]
        go_upto_region 12 with (fail)
        have HI7 := Lib.hid (HI6.out.step (Fr.one _ p 1 (.int .i64 ((j6 : Int) + 2))) (HI6.out.1.setAtI _ (j6 + 2) (by omega)) (show j6 + 2 ≤ s.size by simp at HLS; omega) (by omega))
        have HF7 := Lib.hid (HF3.out.trans (((Fr.one _ p 1 (.int .i64 ((j : Int) + (z.size : Int)))).trans HF6.out).trans (Fr.one _ p 1 (.int .i64 ((j6 : Int) + 2)))))
        have HSS := Lib.hid (HS.out _ _ _ _ _ c HI7.out)
        go_upto_region 14 with (first
          | (go_at_call 9; (with_reducible refine HSS.out.mono ?_); rintro e w8 ⟨v, k8, d8, sv8, o8, form8, err8, R, rfl, hv, hI8, hF8, hk8, ho8, hP, hR⟩))
        obtain ⟨d9, rfl, hd9⟩ := hR.lift hd
        have HV := Lib.hid hv
        have HR := Lib.hid hR
        have HI8 := Lib.hid hI8
        have HP := Lib.hid hP
        have hk8s := hI8.2.2.2.2.2.2.1
        have HF8 := Lib.hid (HF7.out.up.trans hF8)
        have HO8 := Lib.hid ho8
        have H00 := Lib.hid (show o.length ≤ k from H0L.out)
        clear c1 f1 HSS
        have hI8d := hI8.step0 ((Fr.refl (fun _ => False) w8).drew)
        have hnm := rname_any w8.drew B p s k8 (d9 + 1) gv sv8 g o8 form8 err8 wd c hI8d.2.1 hI8d.2.2.2.1 hI8d.2.2.2.2.1 hI8d.2.2.2.2.2.1 hI8d.1
        have hgi := i64_getV (g := g) wd hI8.2.2.2.2.2.1
        rw [HZ.out] at hnm
        rcases hgv : getV g o8 wd with ⟨x, ex⟩
        rw [hgv] at hnm hgi
        have HNM := Lib.hid hnm
        have HX2 := Lib.hid (show I64 x from hgi)
        have HGV := Lib.hid hgv
        have HRK := Lib.hid (fun (w9 : World) (h : RD w9 p s k8 (d9 + 1) gv sv8 form8 (bumpE err8 c ex)) => (show Calls Tryz.prog 16 #[.pointer (some ⟨p, 0, none⟩), .string ⟨#[42]⟩, .int .i64 x, .int .i64 v, .bool c] w9 _ from rreckon_any w9 p s k8 (d9 + 1) gv sv8 form8 (bumpE err8 c ex) [42] x v c (by decide) HX2.out HV.out h))
        have HOI := Lib.hid (show I64 (opI [42] x v).1 from i64_op [42] HX2.out)
        rcases hop : opI [42] x v with ⟨v2, e2⟩
        rw [hop] at HRK HOI
        have HOP := Lib.hid hop
        clear hnm hgv hgi hop hv hR hI8 hI8d hP hF8 ho8 HLS
        refine wp_region_noPanic ?_
        refine wp_region_any (by kernel_rfl) (any_of_T (S := fun _ _ => True) _ _ _ _ ?_)
        change anyT _ _ _ _ _ _ _ _ w8.drew
        refine anyT_take (i := 0) (v := .pointer (some ⟨p, 0, none⟩)) (fun _ => True) rfl (by kernel_rfl) (by kernel_rfl) (by kernel_rfl) (fun _ _ _ h => h) (fun _ _ _ _ hS => hS) (fun _ _ => Iff.rfl) (Clos.start _) (Or.inl ⟨by kernel_rfl, ?ay1x0⟩) trivial (fun ac0 aS0 => ?ar1x0)
        case ay1x0 => (intro W' hSw; go_simp; try (first | rfl | decide | decide +kernel))
        try simp only [Act.put, List.setIfInBounds_toArray, List.set_cons_zero, List.set_cons_succ]
        refine anyT_take (i := 1) (v := .string ⟨#[42, 61]⟩) (fun _ => True) rfl (by kernel_rfl) (by kernel_rfl) (by kernel_rfl) (fun _ _ _ h => h) (fun _ _ _ _ hS => hS) (fun _ _ => Iff.rfl) ac0 (Or.inl ⟨by kernel_rfl, ?ay1x1⟩) trivial (fun ac1 aS1 => ?ar1x1)
        case ay1x1 => (intro W' hSw; go_simp; try (first | rfl | decide | decide +kernel))
        try simp only [Act.put, List.setIfInBounds_toArray, List.set_cons_zero, List.set_cons_succ]
        refine anyT_take (i := 2) (v := .int .i64 2) (fun _ => True) rfl (by kernel_rfl) (by kernel_rfl) (by kernel_rfl) (fun _ _ _ h => h) (fun _ _ _ _ hS => hS) (fun _ _ => Iff.rfl) ac1 (Or.inl ⟨by kernel_rfl, ?ay1x2⟩) trivial (fun ac2 aS2 => ?ar1x2)
        case ay1x2 => (intro W' hSw; go_simp; try (first | rfl | decide | decide +kernel))
        try simp only [Act.put, List.setIfInBounds_toArray, List.set_cons_zero, List.set_cons_succ]
        refine anyT_take (i := 3) (v := .int .i64 1) (fun _ => True) rfl (by kernel_rfl) (by kernel_rfl) (by kernel_rfl) (fun _ _ _ h => h) (fun _ _ _ _ hS => hS) (fun _ _ => Iff.rfl) ac2 (Or.inl ⟨by kernel_rfl, ?ay1x3⟩) trivial (fun ac3 aS3 => ?ar1x3)
        case ay1x3 => (intro W' hSw; go_simp; try (first | rfl | decide | decide +kernel))
        try simp only [Act.put, List.setIfInBounds_toArray, List.set_cons_zero, List.set_cons_succ]
        refine anyT_take (i := 4) (v := .string ⟨#[42]⟩) (fun _ => True) rfl (by kernel_rfl) (by kernel_rfl) (by kernel_rfl) (fun _ _ _ h => h) (fun _ _ _ _ hS => hS) (fun _ _ => Iff.rfl) ac3 (Or.inl ⟨by kernel_rfl, ?ay1x4⟩) trivial (fun ac4 aS4 => ?ar1x4)
        case ay1x4 => (intro W' hSw; go_simp; try (first | rfl | decide | decide +kernel))
        try simp only [Act.put, List.setIfInBounds_toArray, List.set_cons_zero, List.set_cons_succ]
        refine anyT_take (i := 5) (v := .pointer (some ⟨p, 0, none⟩)) (fun _ => True) rfl (by kernel_rfl) (by kernel_rfl) (by kernel_rfl) (fun _ _ _ h => h) (fun _ _ _ _ hS => hS) (fun _ _ => Iff.rfl) ac4 (Or.inl ⟨by kernel_rfl, ?ay1x5⟩) trivial (fun ac5 aS5 => ?ar1x5)
        case ay1x5 => (intro W' hSw; go_simp; try (first | rfl | decide | decide +kernel))
        try simp only [Act.put, List.setIfInBounds_toArray, List.set_cons_zero, List.set_cons_succ]
        refine anyT_take (i := 6) (v := .string z) (fun _ => True) rfl (by kernel_rfl) (by kernel_rfl) (by kernel_rfl) (fun _ _ _ h => h) (fun _ _ _ _ hS => hS) (fun _ _ => Iff.rfl) ac5 (Or.inl ⟨by kernel_rfl, ?ay1x6⟩) trivial (fun ac6 aS6 => ?ar1x6)
        case ay1x6 => (intro W' hSw; go_simp; try (first | rfl | decide | decide +kernel))
        try simp only [Act.put, List.setIfInBounds_toArray, List.set_cons_zero, List.set_cons_succ]
        refine anyT_take (i := 7) (v := .bool c) (fun _ => True) rfl (by kernel_rfl) (by kernel_rfl) (by kernel_rfl) (fun _ _ _ h => h) (fun _ _ _ _ hS => hS) (fun _ _ => Iff.rfl) ac6 (Or.inl ⟨by kernel_rfl, ?ay1x7⟩) trivial (fun ac7 aS7 => ?ar1x7)
        case ay1x7 => (intro W' hSw; go_simp; try (first | rfl | decide | decide +kernel))
        try simp only [Act.put, List.setIfInBounds_toArray, List.set_cons_zero, List.set_cons_succ]
        refine anyT_take (i := 9) (v := .int .i64 v) (fun _ => True) rfl (by kernel_rfl) (by kernel_rfl) (by kernel_rfl) (fun _ _ _ h => h) (fun _ _ _ _ hS => hS) (fun _ _ => Iff.rfl) ac7 (Or.inl ⟨by kernel_rfl, ?ay1x9⟩) trivial (fun ac9 aS9 => ?ar1x9)
        case ay1x9 => (intro W' hSw; go_simp; try (first | rfl | decide | decide +kernel))
        try simp only [Act.put, List.setIfInBounds_toArray, List.set_cons_zero, List.set_cons_succ]
        refine anyT_take (i := 10) (v := .bool c) (fun _ => True) rfl (by kernel_rfl) (by kernel_rfl) (by kernel_rfl) (fun _ _ _ h => h) (fun _ _ _ _ hS => hS) (fun _ _ => Iff.rfl) ac9 (Or.inl ⟨by kernel_rfl, ?ay1x10⟩) trivial (fun ac10 aS10 => ?ar1x10)
        case ay1x10 => (intro W' hSw; go_simp; try (first | rfl | decide | decide +kernel))
        try simp only [Act.put, List.setIfInBounds_toArray, List.set_cons_zero, List.set_cons_succ]
        refine anyT_step (k := 8) (by kernel_rfl) rfl (fun K hK => ?as1x8)
        case as1x8 =>
          have HK := Lib.hid hK
          clear hK
          go_simp
          refine HNM.out.mono ?_
          rintro e w9 ⟨rfl, hR9, hF9⟩
          have HRK9 := Lib.hid (HRK.out w9 hR9)
          have HF9 := Lib.hid (((Fr.refl (· = p) w8).drew).trans hF9)
          clear hR9 hF9
          refine HK.out _ _ trivial ?_
          clear HK
          try simp only [Act.put, List.setIfInBounds_toArray, List.set_cons_zero, List.set_cons_succ]
          refine anyT_step (k := 11) (by kernel_rfl) rfl (fun K hK => ?as1x11)
          case as1x11 =>
            have HK := Lib.hid hK
            clear hK
            go_simp
            refine HRK9.out.mono ?_
            rintro e w10 ⟨rfl, hR10, hF10⟩
            have HR10 := Lib.hid hR10
            have HF10 := Lib.hid (HF9.out.trans hF10)
            clear hR10 hF10
            refine HK.out _ _ trivial ?_
            clear HK
            try simp only [Act.put, List.setIfInBounds_toArray, List.set_cons_zero, List.set_cons_succ]
            refine anyT_step (k := 12) (by kernel_rfl) rfl (fun K hK => ?as1x12)
            case as1x12 =>
              have HK := Lib.hid hK
              clear hK
              go_simp
              refine HK.out _ _ trivial ?_
              clear HK
              try simp only [Act.put, List.setIfInBounds_toArray, List.set_cons_zero, List.set_cons_succ]
              refine anyT_done (by kernel_rfl) ?_
              refine NoPanic.normal ?_
              obtain ⟨c0, c1, c2, c3, c4, c5, c6, fz⟩ := HR10.out.cells
              have f2 := fz 2
              have HI10 := Lib.hid (HI8.out.step HF10.out HR10.out hk8s (Nat.le_refl _))
              generalize he10 : bumpE (bumpE err8 c ex) c e2 = e10 at *
              have HE10 := Lib.hid he10
              have HFa := Lib.hid (HF8.out.trans HF10.out.up)
              have HEV := Lib.hid (fun n (h : evC g n (o, err) c = (v, (o8, err8))) => (show evC g (.asg wd [42] n) (o, err) c = (v2, if c = true ∧ e10 = 0 then (setV o8 wd v2, 0) else (o8, e10)) from by
                rw [evC, h]
                dsimp only
                rw [if_neg (by decide), HGV.out, HOP.out, bump_E, bump_E, HE10.out]
                rfl))
              clear c0 c1 c3 c4 c5 fz he10 HF10 HR10 HGV HOP HRK HNM HE10
              cases c with
              | false =>
                have HNO : Hid (¬ (false = true ∧ e10 = 0)) := Lib.hid (fun h => by cases h.1)
                go_wp2
                go_ret
                exact sets_end hd HN.out (by decide) HTK.out HP.out HR.out (HFa.out.trans (Fr.one _ _ _ _).up) HOI.out (HI10.out.step (Fr.one _ _ _ _) (HI10.out.1.setDeepI _ d9 (by omega)) hk8s (Nat.le_refl _)) (by omega) (by have := HO8.out; omega) (fun n h => by rw [show ([42, 61] : Bs).dropLast = [42] from rfl, HEV.out n h, if_neg HNO.out])
              | true =>
                by_cases he : e10 = 0
                · subst he
                  have HST := Lib.hid (rstore_any w10 p s k8 (d9 + 1) gv sv8 o8 form8 0 wd v2 HOI.out (by have := HI8.out.2.2.2.2.2.2.2; omega) HI10.out.2.2.2.1 HI10.out.1)
                  rw [HZ.out] at HST
                  clear c2 f2
                  go_upto_region 17 with (first
                    | (go_at_call 18; (with_reducible refine HST.out.mono ?_); rintro e w11 ⟨rfl, sv11, hR11, hS11, hF11⟩))
                  obtain ⟨c0, c1, c2, c3, c4, c5, c6, fz⟩ := hR11.cells
                  have f2 := fz 2
                  have HI11 := Lib.hid (HI10.out.stored HOI.out (by have := HO8.out; have := H00.out; omega) hR11 hS11 hF11)
                  have HFb := Lib.hid (HFa.out.trans hF11)
                  clear c0 c1 c3 c4 c5 c6 fz hR11 hS11 hF11
                  go_wp2
                  go_ret
                  exact sets_end hd HN.out (by decide) HTK.out HP.out HR.out (HFb.out.trans (Fr.one _ _ _ _).up) HOI.out (HI11.out.step (Fr.one _ _ _ _) (HI11.out.1.setDeepI _ d9 (by omega)) hk8s (Nat.le_refl _)) (by omega) (by have := HO8.out; have := setV_len o8 wd v2; omega) (fun n h => by rw [show ([42, 61] : Bs).dropLast = [42] from rfl, HEV.out n h, if_pos (by simp)])
                · have HNO : Hid (¬ (true = true ∧ e10 = 0)) := Lib.hid (fun h => he h.2)
                  have g15 : (e10 == 0) = false := by simpa using he
                  clear he
                  go_wp2
                  go_ret
                  exact sets_end hd HN.out (by decide) HTK.out HP.out HR.out (HFa.out.trans (Fr.one _ _ _ _).up) HOI.out (HI10.out.step (Fr.one _ _ _ _) (HI10.out.1.setDeepI _ d9 (by omega)) hk8s (Nat.le_refl _)) (by omega) (by have := HO8.out; omega) (fun n h => by rw [show ([42, 61] : Bs).dropLast = [42] from rfl, HEV.out n h, if_neg HNO.out])
      · rw [show st [47, 61] = (⟨#[47, 61]⟩ : ByteArray) from rfl]
        go_upto_region 12 with (fail)
        have HI7 := Lib.hid (HI6.out.step (Fr.one _ p 1 (.int .i64 ((j6 : Int) + 2))) (HI6.out.1.setAtI _ (j6 + 2) (by omega)) (show j6 + 2 ≤ s.size by simp at HLS; omega) (by omega))
        have HF7 := Lib.hid (HF3.out.trans (((Fr.one _ p 1 (.int .i64 ((j : Int) + (z.size : Int)))).trans HF6.out).trans (Fr.one _ p 1 (.int .i64 ((j6 : Int) + 2)))))
        have HSS := Lib.hid (HS.out _ _ _ _ _ c HI7.out)
        go_upto_region 14 with (first
          | (go_at_call 9; (with_reducible refine HSS.out.mono ?_); rintro e w8 ⟨v, k8, d8, sv8, o8, form8, err8, R, rfl, hv, hI8, hF8, hk8, ho8, hP, hR⟩))
        obtain ⟨d9, rfl, hd9⟩ := hR.lift hd
        have HV := Lib.hid hv
        have HR := Lib.hid hR
        have HI8 := Lib.hid hI8
        have HP := Lib.hid hP
        have hk8s := hI8.2.2.2.2.2.2.1
        have HF8 := Lib.hid (HF7.out.up.trans hF8)
        have HO8 := Lib.hid ho8
        have H00 := Lib.hid (show o.length ≤ k from H0L.out)
        clear c1 f1 HSS
        have hI8d := hI8.step0 ((Fr.refl (fun _ => False) w8).drew)
        have hnm := rname_any w8.drew B p s k8 (d9 + 1) gv sv8 g o8 form8 err8 wd c hI8d.2.1 hI8d.2.2.2.1 hI8d.2.2.2.2.1 hI8d.2.2.2.2.2.1 hI8d.1
        have hgi := i64_getV (g := g) wd hI8.2.2.2.2.2.1
        rw [HZ.out] at hnm
        rcases hgv : getV g o8 wd with ⟨x, ex⟩
        rw [hgv] at hnm hgi
        have HNM := Lib.hid hnm
        have HX2 := Lib.hid (show I64 x from hgi)
        have HGV := Lib.hid hgv
        have HRK := Lib.hid (fun (w9 : World) (h : RD w9 p s k8 (d9 + 1) gv sv8 form8 (bumpE err8 c ex)) => (show Calls Tryz.prog 16 #[.pointer (some ⟨p, 0, none⟩), .string ⟨#[47]⟩, .int .i64 x, .int .i64 v, .bool c] w9 _ from rreckon_any w9 p s k8 (d9 + 1) gv sv8 form8 (bumpE err8 c ex) [47] x v c (by decide) HX2.out HV.out h))
        have HOI := Lib.hid (show I64 (opI [47] x v).1 from i64_op [47] HX2.out)
        rcases hop : opI [47] x v with ⟨v2, e2⟩
        rw [hop] at HRK HOI
        have HOP := Lib.hid hop
        clear hnm hgv hgi hop hv hR hI8 hI8d hP hF8 ho8 HLS
        refine wp_region_noPanic ?_
        refine wp_region_any (by kernel_rfl) (any_of_T (S := fun _ _ => True) _ _ _ _ ?_)
        change anyT _ _ _ _ _ _ _ _ w8.drew
        refine anyT_take (i := 0) (v := .pointer (some ⟨p, 0, none⟩)) (fun _ => True) rfl (by kernel_rfl) (by kernel_rfl) (by kernel_rfl) (fun _ _ _ h => h) (fun _ _ _ _ hS => hS) (fun _ _ => Iff.rfl) (Clos.start _) (Or.inl ⟨by kernel_rfl, ?ay2x0⟩) trivial (fun ac0 aS0 => ?ar2x0)
        case ay2x0 => (intro W' hSw; go_simp; try (first | rfl | decide | decide +kernel))
        try simp only [Act.put, List.setIfInBounds_toArray, List.set_cons_zero, List.set_cons_succ]
        refine anyT_take (i := 1) (v := .string ⟨#[47, 61]⟩) (fun _ => True) rfl (by kernel_rfl) (by kernel_rfl) (by kernel_rfl) (fun _ _ _ h => h) (fun _ _ _ _ hS => hS) (fun _ _ => Iff.rfl) ac0 (Or.inl ⟨by kernel_rfl, ?ay2x1⟩) trivial (fun ac1 aS1 => ?ar2x1)
        case ay2x1 => (intro W' hSw; go_simp; try (first | rfl | decide | decide +kernel))
        try simp only [Act.put, List.setIfInBounds_toArray, List.set_cons_zero, List.set_cons_succ]
        refine anyT_take (i := 2) (v := .int .i64 2) (fun _ => True) rfl (by kernel_rfl) (by kernel_rfl) (by kernel_rfl) (fun _ _ _ h => h) (fun _ _ _ _ hS => hS) (fun _ _ => Iff.rfl) ac1 (Or.inl ⟨by kernel_rfl, ?ay2x2⟩) trivial (fun ac2 aS2 => ?ar2x2)
        case ay2x2 => (intro W' hSw; go_simp; try (first | rfl | decide | decide +kernel))
        try simp only [Act.put, List.setIfInBounds_toArray, List.set_cons_zero, List.set_cons_succ]
        refine anyT_take (i := 3) (v := .int .i64 1) (fun _ => True) rfl (by kernel_rfl) (by kernel_rfl) (by kernel_rfl) (fun _ _ _ h => h) (fun _ _ _ _ hS => hS) (fun _ _ => Iff.rfl) ac2 (Or.inl ⟨by kernel_rfl, ?ay2x3⟩) trivial (fun ac3 aS3 => ?ar2x3)
        case ay2x3 => (intro W' hSw; go_simp; try (first | rfl | decide | decide +kernel))
        try simp only [Act.put, List.setIfInBounds_toArray, List.set_cons_zero, List.set_cons_succ]
        refine anyT_take (i := 4) (v := .string ⟨#[47]⟩) (fun _ => True) rfl (by kernel_rfl) (by kernel_rfl) (by kernel_rfl) (fun _ _ _ h => h) (fun _ _ _ _ hS => hS) (fun _ _ => Iff.rfl) ac3 (Or.inl ⟨by kernel_rfl, ?ay2x4⟩) trivial (fun ac4 aS4 => ?ar2x4)
        case ay2x4 => (intro W' hSw; go_simp; try (first | rfl | decide | decide +kernel))
        try simp only [Act.put, List.setIfInBounds_toArray, List.set_cons_zero, List.set_cons_succ]
        refine anyT_take (i := 5) (v := .pointer (some ⟨p, 0, none⟩)) (fun _ => True) rfl (by kernel_rfl) (by kernel_rfl) (by kernel_rfl) (fun _ _ _ h => h) (fun _ _ _ _ hS => hS) (fun _ _ => Iff.rfl) ac4 (Or.inl ⟨by kernel_rfl, ?ay2x5⟩) trivial (fun ac5 aS5 => ?ar2x5)
        case ay2x5 => (intro W' hSw; go_simp; try (first | rfl | decide | decide +kernel))
        try simp only [Act.put, List.setIfInBounds_toArray, List.set_cons_zero, List.set_cons_succ]
        refine anyT_take (i := 6) (v := .string z) (fun _ => True) rfl (by kernel_rfl) (by kernel_rfl) (by kernel_rfl) (fun _ _ _ h => h) (fun _ _ _ _ hS => hS) (fun _ _ => Iff.rfl) ac5 (Or.inl ⟨by kernel_rfl, ?ay2x6⟩) trivial (fun ac6 aS6 => ?ar2x6)
        case ay2x6 => (intro W' hSw; go_simp; try (first | rfl | decide | decide +kernel))
        try simp only [Act.put, List.setIfInBounds_toArray, List.set_cons_zero, List.set_cons_succ]
        refine anyT_take (i := 7) (v := .bool c) (fun _ => True) rfl (by kernel_rfl) (by kernel_rfl) (by kernel_rfl) (fun _ _ _ h => h) (fun _ _ _ _ hS => hS) (fun _ _ => Iff.rfl) ac6 (Or.inl ⟨by kernel_rfl, ?ay2x7⟩) trivial (fun ac7 aS7 => ?ar2x7)
        case ay2x7 => (intro W' hSw; go_simp; try (first | rfl | decide | decide +kernel))
        try simp only [Act.put, List.setIfInBounds_toArray, List.set_cons_zero, List.set_cons_succ]
        refine anyT_take (i := 9) (v := .int .i64 v) (fun _ => True) rfl (by kernel_rfl) (by kernel_rfl) (by kernel_rfl) (fun _ _ _ h => h) (fun _ _ _ _ hS => hS) (fun _ _ => Iff.rfl) ac7 (Or.inl ⟨by kernel_rfl, ?ay2x9⟩) trivial (fun ac9 aS9 => ?ar2x9)
        case ay2x9 => (intro W' hSw; go_simp; try (first | rfl | decide | decide +kernel))
        try simp only [Act.put, List.setIfInBounds_toArray, List.set_cons_zero, List.set_cons_succ]
        refine anyT_take (i := 10) (v := .bool c) (fun _ => True) rfl (by kernel_rfl) (by kernel_rfl) (by kernel_rfl) (fun _ _ _ h => h) (fun _ _ _ _ hS => hS) (fun _ _ => Iff.rfl) ac9 (Or.inl ⟨by kernel_rfl, ?ay2x10⟩) trivial (fun ac10 aS10 => ?ar2x10)
        case ay2x10 => (intro W' hSw; go_simp; try (first | rfl | decide | decide +kernel))
        try simp only [Act.put, List.setIfInBounds_toArray, List.set_cons_zero, List.set_cons_succ]
        refine anyT_step (k := 8) (by kernel_rfl) rfl (fun K hK => ?as2x8)
        case as2x8 =>
          have HK := Lib.hid hK
          clear hK
          go_simp
          refine HNM.out.mono ?_
          rintro e w9 ⟨rfl, hR9, hF9⟩
          have HRK9 := Lib.hid (HRK.out w9 hR9)
          have HF9 := Lib.hid (((Fr.refl (· = p) w8).drew).trans hF9)
          clear hR9 hF9
          refine HK.out _ _ trivial ?_
          clear HK
          try simp only [Act.put, List.setIfInBounds_toArray, List.set_cons_zero, List.set_cons_succ]
          refine anyT_step (k := 11) (by kernel_rfl) rfl (fun K hK => ?as2x11)
          case as2x11 =>
            have HK := Lib.hid hK
            clear hK
            go_simp
            refine HRK9.out.mono ?_
            rintro e w10 ⟨rfl, hR10, hF10⟩
            have HR10 := Lib.hid hR10
            have HF10 := Lib.hid (HF9.out.trans hF10)
            clear hR10 hF10
            refine HK.out _ _ trivial ?_
            clear HK
            try simp only [Act.put, List.setIfInBounds_toArray, List.set_cons_zero, List.set_cons_succ]
            refine anyT_step (k := 12) (by kernel_rfl) rfl (fun K hK => ?as2x12)
            case as2x12 =>
              have HK := Lib.hid hK
              clear hK
              go_simp
              refine HK.out _ _ trivial ?_
              clear HK
              try simp only [Act.put, List.setIfInBounds_toArray, List.set_cons_zero, List.set_cons_succ]
              refine anyT_done (by kernel_rfl) ?_
              refine NoPanic.normal ?_
              obtain ⟨c0, c1, c2, c3, c4, c5, c6, fz⟩ := HR10.out.cells
              have f2 := fz 2
              have HI10 := Lib.hid (HI8.out.step HF10.out HR10.out hk8s (Nat.le_refl _))
              generalize he10 : bumpE (bumpE err8 c ex) c e2 = e10 at *
              have HE10 := Lib.hid he10
              have HFa := Lib.hid (HF8.out.trans HF10.out.up)
              have HEV := Lib.hid (fun n (h : evC g n (o, err) c = (v, (o8, err8))) => (show evC g (.asg wd [47] n) (o, err) c = (v2, if c = true ∧ e10 = 0 then (setV o8 wd v2, 0) else (o8, e10)) from by
                rw [evC, h]
                dsimp only
                rw [if_neg (by decide), HGV.out, HOP.out, bump_E, bump_E, HE10.out]
                rfl))
              clear c0 c1 c3 c4 c5 fz he10 HF10 HR10 HGV HOP HRK HNM HE10
              cases c with
              | false =>
                have HNO : Hid (¬ (false = true ∧ e10 = 0)) := Lib.hid (fun h => by cases h.1)
                go_wp2
                go_ret
                exact sets_end hd HN.out (by decide) HTK.out HP.out HR.out (HFa.out.trans (Fr.one _ _ _ _).up) HOI.out (HI10.out.step (Fr.one _ _ _ _) (HI10.out.1.setDeepI _ d9 (by omega)) hk8s (Nat.le_refl _)) (by omega) (by have := HO8.out; omega) (fun n h => by rw [show ([47, 61] : Bs).dropLast = [47] from rfl, HEV.out n h, if_neg HNO.out])
              | true =>
                by_cases he : e10 = 0
                · subst he
                  have HST := Lib.hid (rstore_any w10 p s k8 (d9 + 1) gv sv8 o8 form8 0 wd v2 HOI.out (by have := HI8.out.2.2.2.2.2.2.2; omega) HI10.out.2.2.2.1 HI10.out.1)
                  rw [HZ.out] at HST
                  clear c2 f2
                  go_upto_region 17 with (first
                    | (go_at_call 18; (with_reducible refine HST.out.mono ?_); rintro e w11 ⟨rfl, sv11, hR11, hS11, hF11⟩))
                  obtain ⟨c0, c1, c2, c3, c4, c5, c6, fz⟩ := hR11.cells
                  have f2 := fz 2
                  have HI11 := Lib.hid (HI10.out.stored HOI.out (by have := HO8.out; have := H00.out; omega) hR11 hS11 hF11)
                  have HFb := Lib.hid (HFa.out.trans hF11)
                  clear c0 c1 c3 c4 c5 c6 fz hR11 hS11 hF11
                  go_wp2
                  go_ret
                  exact sets_end hd HN.out (by decide) HTK.out HP.out HR.out (HFb.out.trans (Fr.one _ _ _ _).up) HOI.out (HI11.out.step (Fr.one _ _ _ _) (HI11.out.1.setDeepI _ d9 (by omega)) hk8s (Nat.le_refl _)) (by omega) (by have := HO8.out; have := setV_len o8 wd v2; omega) (fun n h => by rw [show ([47, 61] : Bs).dropLast = [47] from rfl, HEV.out n h, if_pos (by simp)])
                · have HNO : Hid (¬ (true = true ∧ e10 = 0)) := Lib.hid (fun h => he h.2)
                  have g15 : (e10 == 0) = false := by simpa using he
                  clear he
                  go_wp2
                  go_ret
                  exact sets_end hd HN.out (by decide) HTK.out HP.out HR.out (HFa.out.trans (Fr.one _ _ _ _).up) HOI.out (HI10.out.step (Fr.one _ _ _ _) (HI10.out.1.setDeepI _ d9 (by omega)) hk8s (Nat.le_refl _)) (by omega) (by have := HO8.out; omega) (fun n h => by rw [show ([47, 61] : Bs).dropLast = [47] from rfl, HEV.out n h, if_neg HNO.out])
      · rw [show st [37, 61] = (⟨#[37, 61]⟩ : ByteArray) from rfl]
        go_upto_region 12 with (fail)
        have HI7 := Lib.hid (HI6.out.step (Fr.one _ p 1 (.int .i64 ((j6 : Int) + 2))) (HI6.out.1.setAtI _ (j6 + 2) (by omega)) (show j6 + 2 ≤ s.size by simp at HLS; omega) (by omega))
        have HF7 := Lib.hid (HF3.out.trans (((Fr.one _ p 1 (.int .i64 ((j : Int) + (z.size : Int)))).trans HF6.out).trans (Fr.one _ p 1 (.int .i64 ((j6 : Int) + 2)))))
        have HSS := Lib.hid (HS.out _ _ _ _ _ c HI7.out)
        go_upto_region 14 with (first
          | (go_at_call 9; (with_reducible refine HSS.out.mono ?_); rintro e w8 ⟨v, k8, d8, sv8, o8, form8, err8, R, rfl, hv, hI8, hF8, hk8, ho8, hP, hR⟩))
        obtain ⟨d9, rfl, hd9⟩ := hR.lift hd
        have HV := Lib.hid hv
        have HR := Lib.hid hR
        have HI8 := Lib.hid hI8
        have HP := Lib.hid hP
        have hk8s := hI8.2.2.2.2.2.2.1
        have HF8 := Lib.hid (HF7.out.up.trans hF8)
        have HO8 := Lib.hid ho8
        have H00 := Lib.hid (show o.length ≤ k from H0L.out)
        clear c1 f1 HSS
        have hI8d := hI8.step0 ((Fr.refl (fun _ => False) w8).drew)
        have hnm := rname_any w8.drew B p s k8 (d9 + 1) gv sv8 g o8 form8 err8 wd c hI8d.2.1 hI8d.2.2.2.1 hI8d.2.2.2.2.1 hI8d.2.2.2.2.2.1 hI8d.1
        have hgi := i64_getV (g := g) wd hI8.2.2.2.2.2.1
        rw [HZ.out] at hnm
        rcases hgv : getV g o8 wd with ⟨x, ex⟩
        rw [hgv] at hnm hgi
        have HNM := Lib.hid hnm
        have HX2 := Lib.hid (show I64 x from hgi)
        have HGV := Lib.hid hgv
        have HRK := Lib.hid (fun (w9 : World) (h : RD w9 p s k8 (d9 + 1) gv sv8 form8 (bumpE err8 c ex)) => (show Calls Tryz.prog 16 #[.pointer (some ⟨p, 0, none⟩), .string ⟨#[37]⟩, .int .i64 x, .int .i64 v, .bool c] w9 _ from rreckon_any w9 p s k8 (d9 + 1) gv sv8 form8 (bumpE err8 c ex) [37] x v c (by decide) HX2.out HV.out h))
        have HOI := Lib.hid (show I64 (opI [37] x v).1 from i64_op [37] HX2.out)
        rcases hop : opI [37] x v with ⟨v2, e2⟩
        rw [hop] at HRK HOI
        have HOP := Lib.hid hop
        clear hnm hgv hgi hop hv hR hI8 hI8d hP hF8 ho8 HLS
        refine wp_region_noPanic ?_
        refine wp_region_any (by kernel_rfl) (any_of_T (S := fun _ _ => True) _ _ _ _ ?_)
        change anyT _ _ _ _ _ _ _ _ w8.drew
        refine anyT_take (i := 0) (v := .pointer (some ⟨p, 0, none⟩)) (fun _ => True) rfl (by kernel_rfl) (by kernel_rfl) (by kernel_rfl) (fun _ _ _ h => h) (fun _ _ _ _ hS => hS) (fun _ _ => Iff.rfl) (Clos.start _) (Or.inl ⟨by kernel_rfl, ?ay3x0⟩) trivial (fun ac0 aS0 => ?ar3x0)
        case ay3x0 => (intro W' hSw; go_simp; try (first | rfl | decide | decide +kernel))
        try simp only [Act.put, List.setIfInBounds_toArray, List.set_cons_zero, List.set_cons_succ]
        refine anyT_take (i := 1) (v := .string ⟨#[37, 61]⟩) (fun _ => True) rfl (by kernel_rfl) (by kernel_rfl) (by kernel_rfl) (fun _ _ _ h => h) (fun _ _ _ _ hS => hS) (fun _ _ => Iff.rfl) ac0 (Or.inl ⟨by kernel_rfl, ?ay3x1⟩) trivial (fun ac1 aS1 => ?ar3x1)
        case ay3x1 => (intro W' hSw; go_simp; try (first | rfl | decide | decide +kernel))
        try simp only [Act.put, List.setIfInBounds_toArray, List.set_cons_zero, List.set_cons_succ]
        refine anyT_take (i := 2) (v := .int .i64 2) (fun _ => True) rfl (by kernel_rfl) (by kernel_rfl) (by kernel_rfl) (fun _ _ _ h => h) (fun _ _ _ _ hS => hS) (fun _ _ => Iff.rfl) ac1 (Or.inl ⟨by kernel_rfl, ?ay3x2⟩) trivial (fun ac2 aS2 => ?ar3x2)
        case ay3x2 => (intro W' hSw; go_simp; try (first | rfl | decide | decide +kernel))
        try simp only [Act.put, List.setIfInBounds_toArray, List.set_cons_zero, List.set_cons_succ]
        refine anyT_take (i := 3) (v := .int .i64 1) (fun _ => True) rfl (by kernel_rfl) (by kernel_rfl) (by kernel_rfl) (fun _ _ _ h => h) (fun _ _ _ _ hS => hS) (fun _ _ => Iff.rfl) ac2 (Or.inl ⟨by kernel_rfl, ?ay3x3⟩) trivial (fun ac3 aS3 => ?ar3x3)
        case ay3x3 => (intro W' hSw; go_simp; try (first | rfl | decide | decide +kernel))
        try simp only [Act.put, List.setIfInBounds_toArray, List.set_cons_zero, List.set_cons_succ]
        refine anyT_take (i := 4) (v := .string ⟨#[37]⟩) (fun _ => True) rfl (by kernel_rfl) (by kernel_rfl) (by kernel_rfl) (fun _ _ _ h => h) (fun _ _ _ _ hS => hS) (fun _ _ => Iff.rfl) ac3 (Or.inl ⟨by kernel_rfl, ?ay3x4⟩) trivial (fun ac4 aS4 => ?ar3x4)
        case ay3x4 => (intro W' hSw; go_simp; try (first | rfl | decide | decide +kernel))
        try simp only [Act.put, List.setIfInBounds_toArray, List.set_cons_zero, List.set_cons_succ]
        refine anyT_take (i := 5) (v := .pointer (some ⟨p, 0, none⟩)) (fun _ => True) rfl (by kernel_rfl) (by kernel_rfl) (by kernel_rfl) (fun _ _ _ h => h) (fun _ _ _ _ hS => hS) (fun _ _ => Iff.rfl) ac4 (Or.inl ⟨by kernel_rfl, ?ay3x5⟩) trivial (fun ac5 aS5 => ?ar3x5)
        case ay3x5 => (intro W' hSw; go_simp; try (first | rfl | decide | decide +kernel))
        try simp only [Act.put, List.setIfInBounds_toArray, List.set_cons_zero, List.set_cons_succ]
        refine anyT_take (i := 6) (v := .string z) (fun _ => True) rfl (by kernel_rfl) (by kernel_rfl) (by kernel_rfl) (fun _ _ _ h => h) (fun _ _ _ _ hS => hS) (fun _ _ => Iff.rfl) ac5 (Or.inl ⟨by kernel_rfl, ?ay3x6⟩) trivial (fun ac6 aS6 => ?ar3x6)
        case ay3x6 => (intro W' hSw; go_simp; try (first | rfl | decide | decide +kernel))
        try simp only [Act.put, List.setIfInBounds_toArray, List.set_cons_zero, List.set_cons_succ]
        refine anyT_take (i := 7) (v := .bool c) (fun _ => True) rfl (by kernel_rfl) (by kernel_rfl) (by kernel_rfl) (fun _ _ _ h => h) (fun _ _ _ _ hS => hS) (fun _ _ => Iff.rfl) ac6 (Or.inl ⟨by kernel_rfl, ?ay3x7⟩) trivial (fun ac7 aS7 => ?ar3x7)
        case ay3x7 => (intro W' hSw; go_simp; try (first | rfl | decide | decide +kernel))
        try simp only [Act.put, List.setIfInBounds_toArray, List.set_cons_zero, List.set_cons_succ]
        refine anyT_take (i := 9) (v := .int .i64 v) (fun _ => True) rfl (by kernel_rfl) (by kernel_rfl) (by kernel_rfl) (fun _ _ _ h => h) (fun _ _ _ _ hS => hS) (fun _ _ => Iff.rfl) ac7 (Or.inl ⟨by kernel_rfl, ?ay3x9⟩) trivial (fun ac9 aS9 => ?ar3x9)
        case ay3x9 => (intro W' hSw; go_simp; try (first | rfl | decide | decide +kernel))
        try simp only [Act.put, List.setIfInBounds_toArray, List.set_cons_zero, List.set_cons_succ]
        refine anyT_take (i := 10) (v := .bool c) (fun _ => True) rfl (by kernel_rfl) (by kernel_rfl) (by kernel_rfl) (fun _ _ _ h => h) (fun _ _ _ _ hS => hS) (fun _ _ => Iff.rfl) ac9 (Or.inl ⟨by kernel_rfl, ?ay3x10⟩) trivial (fun ac10 aS10 => ?ar3x10)
        case ay3x10 => (intro W' hSw; go_simp; try (first | rfl | decide | decide +kernel))
        try simp only [Act.put, List.setIfInBounds_toArray, List.set_cons_zero, List.set_cons_succ]
        refine anyT_step (k := 8) (by kernel_rfl) rfl (fun K hK => ?as3x8)
        case as3x8 =>
          have HK := Lib.hid hK
          clear hK
          go_simp
          refine HNM.out.mono ?_
          rintro e w9 ⟨rfl, hR9, hF9⟩
          have HRK9 := Lib.hid (HRK.out w9 hR9)
          have HF9 := Lib.hid (((Fr.refl (· = p) w8).drew).trans hF9)
          clear hR9 hF9
          refine HK.out _ _ trivial ?_
          clear HK
          try simp only [Act.put, List.setIfInBounds_toArray, List.set_cons_zero, List.set_cons_succ]
          refine anyT_step (k := 11) (by kernel_rfl) rfl (fun K hK => ?as3x11)
          case as3x11 =>
            have HK := Lib.hid hK
            clear hK
            go_simp
            refine HRK9.out.mono ?_
            rintro e w10 ⟨rfl, hR10, hF10⟩
            have HR10 := Lib.hid hR10
            have HF10 := Lib.hid (HF9.out.trans hF10)
            clear hR10 hF10
            refine HK.out _ _ trivial ?_
            clear HK
            try simp only [Act.put, List.setIfInBounds_toArray, List.set_cons_zero, List.set_cons_succ]
            refine anyT_step (k := 12) (by kernel_rfl) rfl (fun K hK => ?as3x12)
            case as3x12 =>
              have HK := Lib.hid hK
              clear hK
              go_simp
              refine HK.out _ _ trivial ?_
              clear HK
              try simp only [Act.put, List.setIfInBounds_toArray, List.set_cons_zero, List.set_cons_succ]
              refine anyT_done (by kernel_rfl) ?_
              refine NoPanic.normal ?_
              obtain ⟨c0, c1, c2, c3, c4, c5, c6, fz⟩ := HR10.out.cells
              have f2 := fz 2
              have HI10 := Lib.hid (HI8.out.step HF10.out HR10.out hk8s (Nat.le_refl _))
              generalize he10 : bumpE (bumpE err8 c ex) c e2 = e10 at *
              have HE10 := Lib.hid he10
              have HFa := Lib.hid (HF8.out.trans HF10.out.up)
              have HEV := Lib.hid (fun n (h : evC g n (o, err) c = (v, (o8, err8))) => (show evC g (.asg wd [37] n) (o, err) c = (v2, if c = true ∧ e10 = 0 then (setV o8 wd v2, 0) else (o8, e10)) from by
                rw [evC, h]
                dsimp only
                rw [if_neg (by decide), HGV.out, HOP.out, bump_E, bump_E, HE10.out]
                rfl))
              clear c0 c1 c3 c4 c5 fz he10 HF10 HR10 HGV HOP HRK HNM HE10
              cases c with
              | false =>
                have HNO : Hid (¬ (false = true ∧ e10 = 0)) := Lib.hid (fun h => by cases h.1)
                go_wp2
                go_ret
                exact sets_end hd HN.out (by decide) HTK.out HP.out HR.out (HFa.out.trans (Fr.one _ _ _ _).up) HOI.out (HI10.out.step (Fr.one _ _ _ _) (HI10.out.1.setDeepI _ d9 (by omega)) hk8s (Nat.le_refl _)) (by omega) (by have := HO8.out; omega) (fun n h => by rw [show ([37, 61] : Bs).dropLast = [37] from rfl, HEV.out n h, if_neg HNO.out])
              | true =>
                by_cases he : e10 = 0
                · subst he
                  have HST := Lib.hid (rstore_any w10 p s k8 (d9 + 1) gv sv8 o8 form8 0 wd v2 HOI.out (by have := HI8.out.2.2.2.2.2.2.2; omega) HI10.out.2.2.2.1 HI10.out.1)
                  rw [HZ.out] at HST
                  clear c2 f2
                  go_upto_region 17 with (first
                    | (go_at_call 18; (with_reducible refine HST.out.mono ?_); rintro e w11 ⟨rfl, sv11, hR11, hS11, hF11⟩))
                  obtain ⟨c0, c1, c2, c3, c4, c5, c6, fz⟩ := hR11.cells
                  have f2 := fz 2
                  have HI11 := Lib.hid (HI10.out.stored HOI.out (by have := HO8.out; have := H00.out; omega) hR11 hS11 hF11)
                  have HFb := Lib.hid (HFa.out.trans hF11)
                  clear c0 c1 c3 c4 c5 c6 fz hR11 hS11 hF11
                  go_wp2
                  go_ret
                  exact sets_end hd HN.out (by decide) HTK.out HP.out HR.out (HFb.out.trans (Fr.one _ _ _ _).up) HOI.out (HI11.out.step (Fr.one _ _ _ _) (HI11.out.1.setDeepI _ d9 (by omega)) hk8s (Nat.le_refl _)) (by omega) (by have := HO8.out; have := setV_len o8 wd v2; omega) (fun n h => by rw [show ([37, 61] : Bs).dropLast = [37] from rfl, HEV.out n h, if_pos (by simp)])
                · have HNO : Hid (¬ (true = true ∧ e10 = 0)) := Lib.hid (fun h => he h.2)
                  have g15 : (e10 == 0) = false := by simpa using he
                  clear he
                  go_wp2
                  go_ret
                  exact sets_end hd HN.out (by decide) HTK.out HP.out HR.out (HFa.out.trans (Fr.one _ _ _ _).up) HOI.out (HI10.out.step (Fr.one _ _ _ _) (HI10.out.1.setDeepI _ d9 (by omega)) hk8s (Nat.le_refl _)) (by omega) (by have := HO8.out; omega) (fun n h => by rw [show ([37, 61] : Bs).dropLast = [37] from rfl, HEV.out n h, if_neg HNO.out])
      · rw [show st [43, 61] = (⟨#[43, 61]⟩ : ByteArray) from rfl]
        go_upto_region 12 with (fail)
        have HI7 := Lib.hid (HI6.out.step (Fr.one _ p 1 (.int .i64 ((j6 : Int) + 2))) (HI6.out.1.setAtI _ (j6 + 2) (by omega)) (show j6 + 2 ≤ s.size by simp at HLS; omega) (by omega))
        have HF7 := Lib.hid (HF3.out.trans (((Fr.one _ p 1 (.int .i64 ((j : Int) + (z.size : Int)))).trans HF6.out).trans (Fr.one _ p 1 (.int .i64 ((j6 : Int) + 2)))))
        have HSS := Lib.hid (HS.out _ _ _ _ _ c HI7.out)
        go_upto_region 14 with (first
          | (go_at_call 9; (with_reducible refine HSS.out.mono ?_); rintro e w8 ⟨v, k8, d8, sv8, o8, form8, err8, R, rfl, hv, hI8, hF8, hk8, ho8, hP, hR⟩))
        obtain ⟨d9, rfl, hd9⟩ := hR.lift hd
        have HV := Lib.hid hv
        have HR := Lib.hid hR
        have HI8 := Lib.hid hI8
        have HP := Lib.hid hP
        have hk8s := hI8.2.2.2.2.2.2.1
        have HF8 := Lib.hid (HF7.out.up.trans hF8)
        have HO8 := Lib.hid ho8
        have H00 := Lib.hid (show o.length ≤ k from H0L.out)
        clear c1 f1 HSS
        have hI8d := hI8.step0 ((Fr.refl (fun _ => False) w8).drew)
        have hnm := rname_any w8.drew B p s k8 (d9 + 1) gv sv8 g o8 form8 err8 wd c hI8d.2.1 hI8d.2.2.2.1 hI8d.2.2.2.2.1 hI8d.2.2.2.2.2.1 hI8d.1
        have hgi := i64_getV (g := g) wd hI8.2.2.2.2.2.1
        rw [HZ.out] at hnm
        rcases hgv : getV g o8 wd with ⟨x, ex⟩
        rw [hgv] at hnm hgi
        have HNM := Lib.hid hnm
        have HX2 := Lib.hid (show I64 x from hgi)
        have HGV := Lib.hid hgv
        have HRK := Lib.hid (fun (w9 : World) (h : RD w9 p s k8 (d9 + 1) gv sv8 form8 (bumpE err8 c ex)) => (show Calls Tryz.prog 16 #[.pointer (some ⟨p, 0, none⟩), .string ⟨#[43]⟩, .int .i64 x, .int .i64 v, .bool c] w9 _ from rreckon_any w9 p s k8 (d9 + 1) gv sv8 form8 (bumpE err8 c ex) [43] x v c (by decide) HX2.out HV.out h))
        have HOI := Lib.hid (show I64 (opI [43] x v).1 from i64_op [43] HX2.out)
        rcases hop : opI [43] x v with ⟨v2, e2⟩
        rw [hop] at HRK HOI
        have HOP := Lib.hid hop
        clear hnm hgv hgi hop hv hR hI8 hI8d hP hF8 ho8 HLS
        refine wp_region_noPanic ?_
        refine wp_region_any (by kernel_rfl) (any_of_T (S := fun _ _ => True) _ _ _ _ ?_)
        change anyT _ _ _ _ _ _ _ _ w8.drew
        refine anyT_take (i := 0) (v := .pointer (some ⟨p, 0, none⟩)) (fun _ => True) rfl (by kernel_rfl) (by kernel_rfl) (by kernel_rfl) (fun _ _ _ h => h) (fun _ _ _ _ hS => hS) (fun _ _ => Iff.rfl) (Clos.start _) (Or.inl ⟨by kernel_rfl, ?ay4x0⟩) trivial (fun ac0 aS0 => ?ar4x0)
        case ay4x0 => (intro W' hSw; go_simp; try (first | rfl | decide | decide +kernel))
        try simp only [Act.put, List.setIfInBounds_toArray, List.set_cons_zero, List.set_cons_succ]
        refine anyT_take (i := 1) (v := .string ⟨#[43, 61]⟩) (fun _ => True) rfl (by kernel_rfl) (by kernel_rfl) (by kernel_rfl) (fun _ _ _ h => h) (fun _ _ _ _ hS => hS) (fun _ _ => Iff.rfl) ac0 (Or.inl ⟨by kernel_rfl, ?ay4x1⟩) trivial (fun ac1 aS1 => ?ar4x1)
        case ay4x1 => (intro W' hSw; go_simp; try (first | rfl | decide | decide +kernel))
        try simp only [Act.put, List.setIfInBounds_toArray, List.set_cons_zero, List.set_cons_succ]
        refine anyT_take (i := 2) (v := .int .i64 2) (fun _ => True) rfl (by kernel_rfl) (by kernel_rfl) (by kernel_rfl) (fun _ _ _ h => h) (fun _ _ _ _ hS => hS) (fun _ _ => Iff.rfl) ac1 (Or.inl ⟨by kernel_rfl, ?ay4x2⟩) trivial (fun ac2 aS2 => ?ar4x2)
        case ay4x2 => (intro W' hSw; go_simp; try (first | rfl | decide | decide +kernel))
        try simp only [Act.put, List.setIfInBounds_toArray, List.set_cons_zero, List.set_cons_succ]
        refine anyT_take (i := 3) (v := .int .i64 1) (fun _ => True) rfl (by kernel_rfl) (by kernel_rfl) (by kernel_rfl) (fun _ _ _ h => h) (fun _ _ _ _ hS => hS) (fun _ _ => Iff.rfl) ac2 (Or.inl ⟨by kernel_rfl, ?ay4x3⟩) trivial (fun ac3 aS3 => ?ar4x3)
        case ay4x3 => (intro W' hSw; go_simp; try (first | rfl | decide | decide +kernel))
        try simp only [Act.put, List.setIfInBounds_toArray, List.set_cons_zero, List.set_cons_succ]
        refine anyT_take (i := 4) (v := .string ⟨#[43]⟩) (fun _ => True) rfl (by kernel_rfl) (by kernel_rfl) (by kernel_rfl) (fun _ _ _ h => h) (fun _ _ _ _ hS => hS) (fun _ _ => Iff.rfl) ac3 (Or.inl ⟨by kernel_rfl, ?ay4x4⟩) trivial (fun ac4 aS4 => ?ar4x4)
        case ay4x4 => (intro W' hSw; go_simp; try (first | rfl | decide | decide +kernel))
        try simp only [Act.put, List.setIfInBounds_toArray, List.set_cons_zero, List.set_cons_succ]
        refine anyT_take (i := 5) (v := .pointer (some ⟨p, 0, none⟩)) (fun _ => True) rfl (by kernel_rfl) (by kernel_rfl) (by kernel_rfl) (fun _ _ _ h => h) (fun _ _ _ _ hS => hS) (fun _ _ => Iff.rfl) ac4 (Or.inl ⟨by kernel_rfl, ?ay4x5⟩) trivial (fun ac5 aS5 => ?ar4x5)
        case ay4x5 => (intro W' hSw; go_simp; try (first | rfl | decide | decide +kernel))
        try simp only [Act.put, List.setIfInBounds_toArray, List.set_cons_zero, List.set_cons_succ]
        refine anyT_take (i := 6) (v := .string z) (fun _ => True) rfl (by kernel_rfl) (by kernel_rfl) (by kernel_rfl) (fun _ _ _ h => h) (fun _ _ _ _ hS => hS) (fun _ _ => Iff.rfl) ac5 (Or.inl ⟨by kernel_rfl, ?ay4x6⟩) trivial (fun ac6 aS6 => ?ar4x6)
        case ay4x6 => (intro W' hSw; go_simp; try (first | rfl | decide | decide +kernel))
        try simp only [Act.put, List.setIfInBounds_toArray, List.set_cons_zero, List.set_cons_succ]
        refine anyT_take (i := 7) (v := .bool c) (fun _ => True) rfl (by kernel_rfl) (by kernel_rfl) (by kernel_rfl) (fun _ _ _ h => h) (fun _ _ _ _ hS => hS) (fun _ _ => Iff.rfl) ac6 (Or.inl ⟨by kernel_rfl, ?ay4x7⟩) trivial (fun ac7 aS7 => ?ar4x7)
        case ay4x7 => (intro W' hSw; go_simp; try (first | rfl | decide | decide +kernel))
        try simp only [Act.put, List.setIfInBounds_toArray, List.set_cons_zero, List.set_cons_succ]
        refine anyT_take (i := 9) (v := .int .i64 v) (fun _ => True) rfl (by kernel_rfl) (by kernel_rfl) (by kernel_rfl) (fun _ _ _ h => h) (fun _ _ _ _ hS => hS) (fun _ _ => Iff.rfl) ac7 (Or.inl ⟨by kernel_rfl, ?ay4x9⟩) trivial (fun ac9 aS9 => ?ar4x9)
        case ay4x9 => (intro W' hSw; go_simp; try (first | rfl | decide | decide +kernel))
        try simp only [Act.put, List.setIfInBounds_toArray, List.set_cons_zero, List.set_cons_succ]
        refine anyT_take (i := 10) (v := .bool c) (fun _ => True) rfl (by kernel_rfl) (by kernel_rfl) (by kernel_rfl) (fun _ _ _ h => h) (fun _ _ _ _ hS => hS) (fun _ _ => Iff.rfl) ac9 (Or.inl ⟨by kernel_rfl, ?ay4x10⟩) trivial (fun ac10 aS10 => ?ar4x10)
        case ay4x10 => (intro W' hSw; go_simp; try (first | rfl | decide | decide +kernel))
        try simp only [Act.put, List.setIfInBounds_toArray, List.set_cons_zero, List.set_cons_succ]
        refine anyT_step (k := 8) (by kernel_rfl) rfl (fun K hK => ?as4x8)
        case as4x8 =>
          have HK := Lib.hid hK
          clear hK
          go_simp
          refine HNM.out.mono ?_
          rintro e w9 ⟨rfl, hR9, hF9⟩
          have HRK9 := Lib.hid (HRK.out w9 hR9)
          have HF9 := Lib.hid (((Fr.refl (· = p) w8).drew).trans hF9)
          clear hR9 hF9
          refine HK.out _ _ trivial ?_
          clear HK
          try simp only [Act.put, List.setIfInBounds_toArray, List.set_cons_zero, List.set_cons_succ]
          refine anyT_step (k := 11) (by kernel_rfl) rfl (fun K hK => ?as4x11)
          case as4x11 =>
            have HK := Lib.hid hK
            clear hK
            go_simp
            refine HRK9.out.mono ?_
            rintro e w10 ⟨rfl, hR10, hF10⟩
            have HR10 := Lib.hid hR10
            have HF10 := Lib.hid (HF9.out.trans hF10)
            clear hR10 hF10
            refine HK.out _ _ trivial ?_
            clear HK
            try simp only [Act.put, List.setIfInBounds_toArray, List.set_cons_zero, List.set_cons_succ]
            refine anyT_step (k := 12) (by kernel_rfl) rfl (fun K hK => ?as4x12)
            case as4x12 =>
              have HK := Lib.hid hK
              clear hK
              go_simp
              refine HK.out _ _ trivial ?_
              clear HK
              try simp only [Act.put, List.setIfInBounds_toArray, List.set_cons_zero, List.set_cons_succ]
              refine anyT_done (by kernel_rfl) ?_
              refine NoPanic.normal ?_
              obtain ⟨c0, c1, c2, c3, c4, c5, c6, fz⟩ := HR10.out.cells
              have f2 := fz 2
              have HI10 := Lib.hid (HI8.out.step HF10.out HR10.out hk8s (Nat.le_refl _))
              generalize he10 : bumpE (bumpE err8 c ex) c e2 = e10 at *
              have HE10 := Lib.hid he10
              have HFa := Lib.hid (HF8.out.trans HF10.out.up)
              have HEV := Lib.hid (fun n (h : evC g n (o, err) c = (v, (o8, err8))) => (show evC g (.asg wd [43] n) (o, err) c = (v2, if c = true ∧ e10 = 0 then (setV o8 wd v2, 0) else (o8, e10)) from by
                rw [evC, h]
                dsimp only
                rw [if_neg (by decide), HGV.out, HOP.out, bump_E, bump_E, HE10.out]
                rfl))
              clear c0 c1 c3 c4 c5 fz he10 HF10 HR10 HGV HOP HRK HNM HE10
              cases c with
              | false =>
                have HNO : Hid (¬ (false = true ∧ e10 = 0)) := Lib.hid (fun h => by cases h.1)
                go_wp2
                go_ret
                exact sets_end hd HN.out (by decide) HTK.out HP.out HR.out (HFa.out.trans (Fr.one _ _ _ _).up) HOI.out (HI10.out.step (Fr.one _ _ _ _) (HI10.out.1.setDeepI _ d9 (by omega)) hk8s (Nat.le_refl _)) (by omega) (by have := HO8.out; omega) (fun n h => by rw [show ([43, 61] : Bs).dropLast = [43] from rfl, HEV.out n h, if_neg HNO.out])
              | true =>
                by_cases he : e10 = 0
                · subst he
                  have HST := Lib.hid (rstore_any w10 p s k8 (d9 + 1) gv sv8 o8 form8 0 wd v2 HOI.out (by have := HI8.out.2.2.2.2.2.2.2; omega) HI10.out.2.2.2.1 HI10.out.1)
                  rw [HZ.out] at HST
                  clear c2 f2
                  go_upto_region 17 with (first
                    | (go_at_call 18; (with_reducible refine HST.out.mono ?_); rintro e w11 ⟨rfl, sv11, hR11, hS11, hF11⟩))
                  obtain ⟨c0, c1, c2, c3, c4, c5, c6, fz⟩ := hR11.cells
                  have f2 := fz 2
                  have HI11 := Lib.hid (HI10.out.stored HOI.out (by have := HO8.out; have := H00.out; omega) hR11 hS11 hF11)
                  have HFb := Lib.hid (HFa.out.trans hF11)
                  clear c0 c1 c3 c4 c5 c6 fz hR11 hS11 hF11
                  go_wp2
                  go_ret
                  exact sets_end hd HN.out (by decide) HTK.out HP.out HR.out (HFb.out.trans (Fr.one _ _ _ _).up) HOI.out (HI11.out.step (Fr.one _ _ _ _) (HI11.out.1.setDeepI _ d9 (by omega)) hk8s (Nat.le_refl _)) (by omega) (by have := HO8.out; have := setV_len o8 wd v2; omega) (fun n h => by rw [show ([43, 61] : Bs).dropLast = [43] from rfl, HEV.out n h, if_pos (by simp)])
                · have HNO : Hid (¬ (true = true ∧ e10 = 0)) := Lib.hid (fun h => he h.2)
                  have g15 : (e10 == 0) = false := by simpa using he
                  clear he
                  go_wp2
                  go_ret
                  exact sets_end hd HN.out (by decide) HTK.out HP.out HR.out (HFa.out.trans (Fr.one _ _ _ _).up) HOI.out (HI10.out.step (Fr.one _ _ _ _) (HI10.out.1.setDeepI _ d9 (by omega)) hk8s (Nat.le_refl _)) (by omega) (by have := HO8.out; omega) (fun n h => by rw [show ([43, 61] : Bs).dropLast = [43] from rfl, HEV.out n h, if_neg HNO.out])
      · rw [show st [45, 61] = (⟨#[45, 61]⟩ : ByteArray) from rfl]
        go_upto_region 12 with (fail)
        have HI7 := Lib.hid (HI6.out.step (Fr.one _ p 1 (.int .i64 ((j6 : Int) + 2))) (HI6.out.1.setAtI _ (j6 + 2) (by omega)) (show j6 + 2 ≤ s.size by simp at HLS; omega) (by omega))
        have HF7 := Lib.hid (HF3.out.trans (((Fr.one _ p 1 (.int .i64 ((j : Int) + (z.size : Int)))).trans HF6.out).trans (Fr.one _ p 1 (.int .i64 ((j6 : Int) + 2)))))
        have HSS := Lib.hid (HS.out _ _ _ _ _ c HI7.out)
        go_upto_region 14 with (first
          | (go_at_call 9; (with_reducible refine HSS.out.mono ?_); rintro e w8 ⟨v, k8, d8, sv8, o8, form8, err8, R, rfl, hv, hI8, hF8, hk8, ho8, hP, hR⟩))
        obtain ⟨d9, rfl, hd9⟩ := hR.lift hd
        have HV := Lib.hid hv
        have HR := Lib.hid hR
        have HI8 := Lib.hid hI8
        have HP := Lib.hid hP
        have hk8s := hI8.2.2.2.2.2.2.1
        have HF8 := Lib.hid (HF7.out.up.trans hF8)
        have HO8 := Lib.hid ho8
        have H00 := Lib.hid (show o.length ≤ k from H0L.out)
        clear c1 f1 HSS
        have hI8d := hI8.step0 ((Fr.refl (fun _ => False) w8).drew)
        have hnm := rname_any w8.drew B p s k8 (d9 + 1) gv sv8 g o8 form8 err8 wd c hI8d.2.1 hI8d.2.2.2.1 hI8d.2.2.2.2.1 hI8d.2.2.2.2.2.1 hI8d.1
        have hgi := i64_getV (g := g) wd hI8.2.2.2.2.2.1
        rw [HZ.out] at hnm
        rcases hgv : getV g o8 wd with ⟨x, ex⟩
        rw [hgv] at hnm hgi
        have HNM := Lib.hid hnm
        have HX2 := Lib.hid (show I64 x from hgi)
        have HGV := Lib.hid hgv
        have HRK := Lib.hid (fun (w9 : World) (h : RD w9 p s k8 (d9 + 1) gv sv8 form8 (bumpE err8 c ex)) => (show Calls Tryz.prog 16 #[.pointer (some ⟨p, 0, none⟩), .string ⟨#[45]⟩, .int .i64 x, .int .i64 v, .bool c] w9 _ from rreckon_any w9 p s k8 (d9 + 1) gv sv8 form8 (bumpE err8 c ex) [45] x v c (by decide) HX2.out HV.out h))
        have HOI := Lib.hid (show I64 (opI [45] x v).1 from i64_op [45] HX2.out)
        rcases hop : opI [45] x v with ⟨v2, e2⟩
        rw [hop] at HRK HOI
        have HOP := Lib.hid hop
        clear hnm hgv hgi hop hv hR hI8 hI8d hP hF8 ho8 HLS
        refine wp_region_noPanic ?_
        refine wp_region_any (by kernel_rfl) (any_of_T (S := fun _ _ => True) _ _ _ _ ?_)
        change anyT _ _ _ _ _ _ _ _ w8.drew
        refine anyT_take (i := 0) (v := .pointer (some ⟨p, 0, none⟩)) (fun _ => True) rfl (by kernel_rfl) (by kernel_rfl) (by kernel_rfl) (fun _ _ _ h => h) (fun _ _ _ _ hS => hS) (fun _ _ => Iff.rfl) (Clos.start _) (Or.inl ⟨by kernel_rfl, ?ay5x0⟩) trivial (fun ac0 aS0 => ?ar5x0)
        case ay5x0 => (intro W' hSw; go_simp; try (first | rfl | decide | decide +kernel))
        try simp only [Act.put, List.setIfInBounds_toArray, List.set_cons_zero, List.set_cons_succ]
        refine anyT_take (i := 1) (v := .string ⟨#[45, 61]⟩) (fun _ => True) rfl (by kernel_rfl) (by kernel_rfl) (by kernel_rfl) (fun _ _ _ h => h) (fun _ _ _ _ hS => hS) (fun _ _ => Iff.rfl) ac0 (Or.inl ⟨by kernel_rfl, ?ay5x1⟩) trivial (fun ac1 aS1 => ?ar5x1)
        case ay5x1 => (intro W' hSw; go_simp; try (first | rfl | decide | decide +kernel))
        try simp only [Act.put, List.setIfInBounds_toArray, List.set_cons_zero, List.set_cons_succ]
        refine anyT_take (i := 2) (v := .int .i64 2) (fun _ => True) rfl (by kernel_rfl) (by kernel_rfl) (by kernel_rfl) (fun _ _ _ h => h) (fun _ _ _ _ hS => hS) (fun _ _ => Iff.rfl) ac1 (Or.inl ⟨by kernel_rfl, ?ay5x2⟩) trivial (fun ac2 aS2 => ?ar5x2)
        case ay5x2 => (intro W' hSw; go_simp; try (first | rfl | decide | decide +kernel))
        try simp only [Act.put, List.setIfInBounds_toArray, List.set_cons_zero, List.set_cons_succ]
        refine anyT_take (i := 3) (v := .int .i64 1) (fun _ => True) rfl (by kernel_rfl) (by kernel_rfl) (by kernel_rfl) (fun _ _ _ h => h) (fun _ _ _ _ hS => hS) (fun _ _ => Iff.rfl) ac2 (Or.inl ⟨by kernel_rfl, ?ay5x3⟩) trivial (fun ac3 aS3 => ?ar5x3)
        case ay5x3 => (intro W' hSw; go_simp; try (first | rfl | decide | decide +kernel))
        try simp only [Act.put, List.setIfInBounds_toArray, List.set_cons_zero, List.set_cons_succ]
        refine anyT_take (i := 4) (v := .string ⟨#[45]⟩) (fun _ => True) rfl (by kernel_rfl) (by kernel_rfl) (by kernel_rfl) (fun _ _ _ h => h) (fun _ _ _ _ hS => hS) (fun _ _ => Iff.rfl) ac3 (Or.inl ⟨by kernel_rfl, ?ay5x4⟩) trivial (fun ac4 aS4 => ?ar5x4)
        case ay5x4 => (intro W' hSw; go_simp; try (first | rfl | decide | decide +kernel))
        try simp only [Act.put, List.setIfInBounds_toArray, List.set_cons_zero, List.set_cons_succ]
        refine anyT_take (i := 5) (v := .pointer (some ⟨p, 0, none⟩)) (fun _ => True) rfl (by kernel_rfl) (by kernel_rfl) (by kernel_rfl) (fun _ _ _ h => h) (fun _ _ _ _ hS => hS) (fun _ _ => Iff.rfl) ac4 (Or.inl ⟨by kernel_rfl, ?ay5x5⟩) trivial (fun ac5 aS5 => ?ar5x5)
        case ay5x5 => (intro W' hSw; go_simp; try (first | rfl | decide | decide +kernel))
        try simp only [Act.put, List.setIfInBounds_toArray, List.set_cons_zero, List.set_cons_succ]
        refine anyT_take (i := 6) (v := .string z) (fun _ => True) rfl (by kernel_rfl) (by kernel_rfl) (by kernel_rfl) (fun _ _ _ h => h) (fun _ _ _ _ hS => hS) (fun _ _ => Iff.rfl) ac5 (Or.inl ⟨by kernel_rfl, ?ay5x6⟩) trivial (fun ac6 aS6 => ?ar5x6)
        case ay5x6 => (intro W' hSw; go_simp; try (first | rfl | decide | decide +kernel))
        try simp only [Act.put, List.setIfInBounds_toArray, List.set_cons_zero, List.set_cons_succ]
        refine anyT_take (i := 7) (v := .bool c) (fun _ => True) rfl (by kernel_rfl) (by kernel_rfl) (by kernel_rfl) (fun _ _ _ h => h) (fun _ _ _ _ hS => hS) (fun _ _ => Iff.rfl) ac6 (Or.inl ⟨by kernel_rfl, ?ay5x7⟩) trivial (fun ac7 aS7 => ?ar5x7)
        case ay5x7 => (intro W' hSw; go_simp; try (first | rfl | decide | decide +kernel))
        try simp only [Act.put, List.setIfInBounds_toArray, List.set_cons_zero, List.set_cons_succ]
        refine anyT_take (i := 9) (v := .int .i64 v) (fun _ => True) rfl (by kernel_rfl) (by kernel_rfl) (by kernel_rfl) (fun _ _ _ h => h) (fun _ _ _ _ hS => hS) (fun _ _ => Iff.rfl) ac7 (Or.inl ⟨by kernel_rfl, ?ay5x9⟩) trivial (fun ac9 aS9 => ?ar5x9)
        case ay5x9 => (intro W' hSw; go_simp; try (first | rfl | decide | decide +kernel))
        try simp only [Act.put, List.setIfInBounds_toArray, List.set_cons_zero, List.set_cons_succ]
        refine anyT_take (i := 10) (v := .bool c) (fun _ => True) rfl (by kernel_rfl) (by kernel_rfl) (by kernel_rfl) (fun _ _ _ h => h) (fun _ _ _ _ hS => hS) (fun _ _ => Iff.rfl) ac9 (Or.inl ⟨by kernel_rfl, ?ay5x10⟩) trivial (fun ac10 aS10 => ?ar5x10)
        case ay5x10 => (intro W' hSw; go_simp; try (first | rfl | decide | decide +kernel))
        try simp only [Act.put, List.setIfInBounds_toArray, List.set_cons_zero, List.set_cons_succ]
        refine anyT_step (k := 8) (by kernel_rfl) rfl (fun K hK => ?as5x8)
        case as5x8 =>
          have HK := Lib.hid hK
          clear hK
          go_simp
          refine HNM.out.mono ?_
          rintro e w9 ⟨rfl, hR9, hF9⟩
          have HRK9 := Lib.hid (HRK.out w9 hR9)
          have HF9 := Lib.hid (((Fr.refl (· = p) w8).drew).trans hF9)
          clear hR9 hF9
          refine HK.out _ _ trivial ?_
          clear HK
          try simp only [Act.put, List.setIfInBounds_toArray, List.set_cons_zero, List.set_cons_succ]
          refine anyT_step (k := 11) (by kernel_rfl) rfl (fun K hK => ?as5x11)
          case as5x11 =>
            have HK := Lib.hid hK
            clear hK
            go_simp
            refine HRK9.out.mono ?_
            rintro e w10 ⟨rfl, hR10, hF10⟩
            have HR10 := Lib.hid hR10
            have HF10 := Lib.hid (HF9.out.trans hF10)
            clear hR10 hF10
            refine HK.out _ _ trivial ?_
            clear HK
            try simp only [Act.put, List.setIfInBounds_toArray, List.set_cons_zero, List.set_cons_succ]
            refine anyT_step (k := 12) (by kernel_rfl) rfl (fun K hK => ?as5x12)
            case as5x12 =>
              have HK := Lib.hid hK
              clear hK
              go_simp
              refine HK.out _ _ trivial ?_
              clear HK
              try simp only [Act.put, List.setIfInBounds_toArray, List.set_cons_zero, List.set_cons_succ]
              refine anyT_done (by kernel_rfl) ?_
              refine NoPanic.normal ?_
              obtain ⟨c0, c1, c2, c3, c4, c5, c6, fz⟩ := HR10.out.cells
              have f2 := fz 2
              have HI10 := Lib.hid (HI8.out.step HF10.out HR10.out hk8s (Nat.le_refl _))
              generalize he10 : bumpE (bumpE err8 c ex) c e2 = e10 at *
              have HE10 := Lib.hid he10
              have HFa := Lib.hid (HF8.out.trans HF10.out.up)
              have HEV := Lib.hid (fun n (h : evC g n (o, err) c = (v, (o8, err8))) => (show evC g (.asg wd [45] n) (o, err) c = (v2, if c = true ∧ e10 = 0 then (setV o8 wd v2, 0) else (o8, e10)) from by
                rw [evC, h]
                dsimp only
                rw [if_neg (by decide), HGV.out, HOP.out, bump_E, bump_E, HE10.out]
                rfl))
              clear c0 c1 c3 c4 c5 fz he10 HF10 HR10 HGV HOP HRK HNM HE10
              cases c with
              | false =>
                have HNO : Hid (¬ (false = true ∧ e10 = 0)) := Lib.hid (fun h => by cases h.1)
                go_wp2
                go_ret
                exact sets_end hd HN.out (by decide) HTK.out HP.out HR.out (HFa.out.trans (Fr.one _ _ _ _).up) HOI.out (HI10.out.step (Fr.one _ _ _ _) (HI10.out.1.setDeepI _ d9 (by omega)) hk8s (Nat.le_refl _)) (by omega) (by have := HO8.out; omega) (fun n h => by rw [show ([45, 61] : Bs).dropLast = [45] from rfl, HEV.out n h, if_neg HNO.out])
              | true =>
                by_cases he : e10 = 0
                · subst he
                  have HST := Lib.hid (rstore_any w10 p s k8 (d9 + 1) gv sv8 o8 form8 0 wd v2 HOI.out (by have := HI8.out.2.2.2.2.2.2.2; omega) HI10.out.2.2.2.1 HI10.out.1)
                  rw [HZ.out] at HST
                  clear c2 f2
                  go_upto_region 17 with (first
                    | (go_at_call 18; (with_reducible refine HST.out.mono ?_); rintro e w11 ⟨rfl, sv11, hR11, hS11, hF11⟩))
                  obtain ⟨c0, c1, c2, c3, c4, c5, c6, fz⟩ := hR11.cells
                  have f2 := fz 2
                  have HI11 := Lib.hid (HI10.out.stored HOI.out (by have := HO8.out; have := H00.out; omega) hR11 hS11 hF11)
                  have HFb := Lib.hid (HFa.out.trans hF11)
                  clear c0 c1 c3 c4 c5 c6 fz hR11 hS11 hF11
                  go_wp2
                  go_ret
                  exact sets_end hd HN.out (by decide) HTK.out HP.out HR.out (HFb.out.trans (Fr.one _ _ _ _).up) HOI.out (HI11.out.step (Fr.one _ _ _ _) (HI11.out.1.setDeepI _ d9 (by omega)) hk8s (Nat.le_refl _)) (by omega) (by have := HO8.out; have := setV_len o8 wd v2; omega) (fun n h => by rw [show ([45, 61] : Bs).dropLast = [45] from rfl, HEV.out n h, if_pos (by simp)])
                · have HNO : Hid (¬ (true = true ∧ e10 = 0)) := Lib.hid (fun h => he h.2)
                  have g15 : (e10 == 0) = false := by simpa using he
                  clear he
                  go_wp2
                  go_ret
                  exact sets_end hd HN.out (by decide) HTK.out HP.out HR.out (HFa.out.trans (Fr.one _ _ _ _).up) HOI.out (HI10.out.step (Fr.one _ _ _ _) (HI10.out.1.setDeepI _ d9 (by omega)) hk8s (Nat.le_refl _)) (by omega) (by have := HO8.out; omega) (fun n h => by rw [show ([45, 61] : Bs).dropLast = [45] from rfl, HEV.out n h, if_neg HNO.out])
      · rw [show st [60, 60, 61] = (⟨#[60, 60, 61]⟩ : ByteArray) from rfl]
        go_upto_region 12 with (fail)
        have HI7 := Lib.hid (HI6.out.step (Fr.one _ p 1 (.int .i64 ((j6 : Int) + 3))) (HI6.out.1.setAtI _ (j6 + 3) (by omega)) (show j6 + 3 ≤ s.size by simp at HLS; omega) (by omega))
        have HF7 := Lib.hid (HF3.out.trans (((Fr.one _ p 1 (.int .i64 ((j : Int) + (z.size : Int)))).trans HF6.out).trans (Fr.one _ p 1 (.int .i64 ((j6 : Int) + 3)))))
        have HSS := Lib.hid (HS.out _ _ _ _ _ c HI7.out)
        go_upto_region 14 with (first
          | (go_at_call 9; (with_reducible refine HSS.out.mono ?_); rintro e w8 ⟨v, k8, d8, sv8, o8, form8, err8, R, rfl, hv, hI8, hF8, hk8, ho8, hP, hR⟩))
        obtain ⟨d9, rfl, hd9⟩ := hR.lift hd
        have HV := Lib.hid hv
        have HR := Lib.hid hR
        have HI8 := Lib.hid hI8
        have HP := Lib.hid hP
        have hk8s := hI8.2.2.2.2.2.2.1
        have HF8 := Lib.hid (HF7.out.up.trans hF8)
        have HO8 := Lib.hid ho8
        have H00 := Lib.hid (show o.length ≤ k from H0L.out)
        clear c1 f1 HSS
        have hI8d := hI8.step0 ((Fr.refl (fun _ => False) w8).drew)
        have hnm := rname_any w8.drew B p s k8 (d9 + 1) gv sv8 g o8 form8 err8 wd c hI8d.2.1 hI8d.2.2.2.1 hI8d.2.2.2.2.1 hI8d.2.2.2.2.2.1 hI8d.1
        have hgi := i64_getV (g := g) wd hI8.2.2.2.2.2.1
        rw [HZ.out] at hnm
        rcases hgv : getV g o8 wd with ⟨x, ex⟩
        rw [hgv] at hnm hgi
        have HNM := Lib.hid hnm
        have HX2 := Lib.hid (show I64 x from hgi)
        have HGV := Lib.hid hgv
        have HRK := Lib.hid (fun (w9 : World) (h : RD w9 p s k8 (d9 + 1) gv sv8 form8 (bumpE err8 c ex)) => (show Calls Tryz.prog 16 #[.pointer (some ⟨p, 0, none⟩), .string ⟨#[60, 60]⟩, .int .i64 x, .int .i64 v, .bool c] w9 _ from rreckon_any w9 p s k8 (d9 + 1) gv sv8 form8 (bumpE err8 c ex) [60, 60] x v c (by decide) HX2.out HV.out h))
        have HOI := Lib.hid (show I64 (opI [60, 60] x v).1 from i64_op [60, 60] HX2.out)
        rcases hop : opI [60, 60] x v with ⟨v2, e2⟩
        rw [hop] at HRK HOI
        have HOP := Lib.hid hop
        clear hnm hgv hgi hop hv hR hI8 hI8d hP hF8 ho8 HLS
        refine wp_region_noPanic ?_
        refine wp_region_any (by kernel_rfl) (any_of_T (S := fun _ _ => True) _ _ _ _ ?_)
        change anyT _ _ _ _ _ _ _ _ w8.drew
        refine anyT_take (i := 0) (v := .pointer (some ⟨p, 0, none⟩)) (fun _ => True) rfl (by kernel_rfl) (by kernel_rfl) (by kernel_rfl) (fun _ _ _ h => h) (fun _ _ _ _ hS => hS) (fun _ _ => Iff.rfl) (Clos.start _) (Or.inl ⟨by kernel_rfl, ?ay6x0⟩) trivial (fun ac0 aS0 => ?ar6x0)
        case ay6x0 => (intro W' hSw; go_simp; try (first | rfl | decide | decide +kernel))
        try simp only [Act.put, List.setIfInBounds_toArray, List.set_cons_zero, List.set_cons_succ]
        refine anyT_take (i := 1) (v := .string ⟨#[60, 60, 61]⟩) (fun _ => True) rfl (by kernel_rfl) (by kernel_rfl) (by kernel_rfl) (fun _ _ _ h => h) (fun _ _ _ _ hS => hS) (fun _ _ => Iff.rfl) ac0 (Or.inl ⟨by kernel_rfl, ?ay6x1⟩) trivial (fun ac1 aS1 => ?ar6x1)
        case ay6x1 => (intro W' hSw; go_simp; try (first | rfl | decide | decide +kernel))
        try simp only [Act.put, List.setIfInBounds_toArray, List.set_cons_zero, List.set_cons_succ]
        refine anyT_take (i := 2) (v := .int .i64 3) (fun _ => True) rfl (by kernel_rfl) (by kernel_rfl) (by kernel_rfl) (fun _ _ _ h => h) (fun _ _ _ _ hS => hS) (fun _ _ => Iff.rfl) ac1 (Or.inl ⟨by kernel_rfl, ?ay6x2⟩) trivial (fun ac2 aS2 => ?ar6x2)
        case ay6x2 => (intro W' hSw; go_simp; try (first | rfl | decide | decide +kernel))
        try simp only [Act.put, List.setIfInBounds_toArray, List.set_cons_zero, List.set_cons_succ]
        refine anyT_take (i := 3) (v := .int .i64 2) (fun _ => True) rfl (by kernel_rfl) (by kernel_rfl) (by kernel_rfl) (fun _ _ _ h => h) (fun _ _ _ _ hS => hS) (fun _ _ => Iff.rfl) ac2 (Or.inl ⟨by kernel_rfl, ?ay6x3⟩) trivial (fun ac3 aS3 => ?ar6x3)
        case ay6x3 => (intro W' hSw; go_simp; try (first | rfl | decide | decide +kernel))
        try simp only [Act.put, List.setIfInBounds_toArray, List.set_cons_zero, List.set_cons_succ]
        refine anyT_take (i := 4) (v := .string ⟨#[60, 60]⟩) (fun _ => True) rfl (by kernel_rfl) (by kernel_rfl) (by kernel_rfl) (fun _ _ _ h => h) (fun _ _ _ _ hS => hS) (fun _ _ => Iff.rfl) ac3 (Or.inl ⟨by kernel_rfl, ?ay6x4⟩) trivial (fun ac4 aS4 => ?ar6x4)
        case ay6x4 => (intro W' hSw; go_simp; try (first | rfl | decide | decide +kernel))
        try simp only [Act.put, List.setIfInBounds_toArray, List.set_cons_zero, List.set_cons_succ]
        refine anyT_take (i := 5) (v := .pointer (some ⟨p, 0, none⟩)) (fun _ => True) rfl (by kernel_rfl) (by kernel_rfl) (by kernel_rfl) (fun _ _ _ h => h) (fun _ _ _ _ hS => hS) (fun _ _ => Iff.rfl) ac4 (Or.inl ⟨by kernel_rfl, ?ay6x5⟩) trivial (fun ac5 aS5 => ?ar6x5)
        case ay6x5 => (intro W' hSw; go_simp; try (first | rfl | decide | decide +kernel))
        try simp only [Act.put, List.setIfInBounds_toArray, List.set_cons_zero, List.set_cons_succ]
        refine anyT_take (i := 6) (v := .string z) (fun _ => True) rfl (by kernel_rfl) (by kernel_rfl) (by kernel_rfl) (fun _ _ _ h => h) (fun _ _ _ _ hS => hS) (fun _ _ => Iff.rfl) ac5 (Or.inl ⟨by kernel_rfl, ?ay6x6⟩) trivial (fun ac6 aS6 => ?ar6x6)
        case ay6x6 => (intro W' hSw; go_simp; try (first | rfl | decide | decide +kernel))
        try simp only [Act.put, List.setIfInBounds_toArray, List.set_cons_zero, List.set_cons_succ]
        refine anyT_take (i := 7) (v := .bool c) (fun _ => True) rfl (by kernel_rfl) (by kernel_rfl) (by kernel_rfl) (fun _ _ _ h => h) (fun _ _ _ _ hS => hS) (fun _ _ => Iff.rfl) ac6 (Or.inl ⟨by kernel_rfl, ?ay6x7⟩) trivial (fun ac7 aS7 => ?ar6x7)
        case ay6x7 => (intro W' hSw; go_simp; try (first | rfl | decide | decide +kernel))
        try simp only [Act.put, List.setIfInBounds_toArray, List.set_cons_zero, List.set_cons_succ]
        refine anyT_take (i := 9) (v := .int .i64 v) (fun _ => True) rfl (by kernel_rfl) (by kernel_rfl) (by kernel_rfl) (fun _ _ _ h => h) (fun _ _ _ _ hS => hS) (fun _ _ => Iff.rfl) ac7 (Or.inl ⟨by kernel_rfl, ?ay6x9⟩) trivial (fun ac9 aS9 => ?ar6x9)
        case ay6x9 => (intro W' hSw; go_simp; try (first | rfl | decide | decide +kernel))
        try simp only [Act.put, List.setIfInBounds_toArray, List.set_cons_zero, List.set_cons_succ]
        refine anyT_take (i := 10) (v := .bool c) (fun _ => True) rfl (by kernel_rfl) (by kernel_rfl) (by kernel_rfl) (fun _ _ _ h => h) (fun _ _ _ _ hS => hS) (fun _ _ => Iff.rfl) ac9 (Or.inl ⟨by kernel_rfl, ?ay6x10⟩) trivial (fun ac10 aS10 => ?ar6x10)
        case ay6x10 => (intro W' hSw; go_simp; try (first | rfl | decide | decide +kernel))
        try simp only [Act.put, List.setIfInBounds_toArray, List.set_cons_zero, List.set_cons_succ]
        refine anyT_step (k := 8) (by kernel_rfl) rfl (fun K hK => ?as6x8)
        case as6x8 =>
          have HK := Lib.hid hK
          clear hK
          go_simp
          refine HNM.out.mono ?_
          rintro e w9 ⟨rfl, hR9, hF9⟩
          have HRK9 := Lib.hid (HRK.out w9 hR9)
          have HF9 := Lib.hid (((Fr.refl (· = p) w8).drew).trans hF9)
          clear hR9 hF9
          refine HK.out _ _ trivial ?_
          clear HK
          try simp only [Act.put, List.setIfInBounds_toArray, List.set_cons_zero, List.set_cons_succ]
          refine anyT_step (k := 11) (by kernel_rfl) rfl (fun K hK => ?as6x11)
          case as6x11 =>
            have HK := Lib.hid hK
            clear hK
            go_simp
            refine HRK9.out.mono ?_
            rintro e w10 ⟨rfl, hR10, hF10⟩
            have HR10 := Lib.hid hR10
            have HF10 := Lib.hid (HF9.out.trans hF10)
            clear hR10 hF10
            refine HK.out _ _ trivial ?_
            clear HK
            try simp only [Act.put, List.setIfInBounds_toArray, List.set_cons_zero, List.set_cons_succ]
            refine anyT_step (k := 12) (by kernel_rfl) rfl (fun K hK => ?as6x12)
            case as6x12 =>
              have HK := Lib.hid hK
              clear hK
              go_simp
              refine HK.out _ _ trivial ?_
              clear HK
              try simp only [Act.put, List.setIfInBounds_toArray, List.set_cons_zero, List.set_cons_succ]
              refine anyT_done (by kernel_rfl) ?_
              refine NoPanic.normal ?_
              obtain ⟨c0, c1, c2, c3, c4, c5, c6, fz⟩ := HR10.out.cells
              have f2 := fz 2
              have HI10 := Lib.hid (HI8.out.step HF10.out HR10.out hk8s (Nat.le_refl _))
              generalize he10 : bumpE (bumpE err8 c ex) c e2 = e10 at *
              have HE10 := Lib.hid he10
              have HFa := Lib.hid (HF8.out.trans HF10.out.up)
              have HEV := Lib.hid (fun n (h : evC g n (o, err) c = (v, (o8, err8))) => (show evC g (.asg wd [60, 60] n) (o, err) c = (v2, if c = true ∧ e10 = 0 then (setV o8 wd v2, 0) else (o8, e10)) from by
                rw [evC, h]
                dsimp only
                rw [if_neg (by decide), HGV.out, HOP.out, bump_E, bump_E, HE10.out]
                rfl))
              clear c0 c1 c3 c4 c5 fz he10 HF10 HR10 HGV HOP HRK HNM HE10
              cases c with
              | false =>
                have HNO : Hid (¬ (false = true ∧ e10 = 0)) := Lib.hid (fun h => by cases h.1)
                go_wp2
                go_ret
                exact sets_end hd HN.out (by decide) HTK.out HP.out HR.out (HFa.out.trans (Fr.one _ _ _ _).up) HOI.out (HI10.out.step (Fr.one _ _ _ _) (HI10.out.1.setDeepI _ d9 (by omega)) hk8s (Nat.le_refl _)) (by omega) (by have := HO8.out; omega) (fun n h => by rw [show ([60, 60, 61] : Bs).dropLast = [60, 60] from rfl, HEV.out n h, if_neg HNO.out])
              | true =>
                by_cases he : e10 = 0
                · subst he
                  have HST := Lib.hid (rstore_any w10 p s k8 (d9 + 1) gv sv8 o8 form8 0 wd v2 HOI.out (by have := HI8.out.2.2.2.2.2.2.2; omega) HI10.out.2.2.2.1 HI10.out.1)
                  rw [HZ.out] at HST
                  clear c2 f2
                  go_upto_region 17 with (first
                    | (go_at_call 18; (with_reducible refine HST.out.mono ?_); rintro e w11 ⟨rfl, sv11, hR11, hS11, hF11⟩))
                  obtain ⟨c0, c1, c2, c3, c4, c5, c6, fz⟩ := hR11.cells
                  have f2 := fz 2
                  have HI11 := Lib.hid (HI10.out.stored HOI.out (by have := HO8.out; have := H00.out; omega) hR11 hS11 hF11)
                  have HFb := Lib.hid (HFa.out.trans hF11)
                  clear c0 c1 c3 c4 c5 c6 fz hR11 hS11 hF11
                  go_wp2
                  go_ret
                  exact sets_end hd HN.out (by decide) HTK.out HP.out HR.out (HFb.out.trans (Fr.one _ _ _ _).up) HOI.out (HI11.out.step (Fr.one _ _ _ _) (HI11.out.1.setDeepI _ d9 (by omega)) hk8s (Nat.le_refl _)) (by omega) (by have := HO8.out; have := setV_len o8 wd v2; omega) (fun n h => by rw [show ([60, 60, 61] : Bs).dropLast = [60, 60] from rfl, HEV.out n h, if_pos (by simp)])
                · have HNO : Hid (¬ (true = true ∧ e10 = 0)) := Lib.hid (fun h => he h.2)
                  have g15 : (e10 == 0) = false := by simpa using he
                  clear he
                  go_wp2
                  go_ret
                  exact sets_end hd HN.out (by decide) HTK.out HP.out HR.out (HFa.out.trans (Fr.one _ _ _ _).up) HOI.out (HI10.out.step (Fr.one _ _ _ _) (HI10.out.1.setDeepI _ d9 (by omega)) hk8s (Nat.le_refl _)) (by omega) (by have := HO8.out; omega) (fun n h => by rw [show ([60, 60, 61] : Bs).dropLast = [60, 60] from rfl, HEV.out n h, if_neg HNO.out])
      · rw [show st [62, 62, 61] = (⟨#[62, 62, 61]⟩ : ByteArray) from rfl]
        go_upto_region 12 with (fail)
        have HI7 := Lib.hid (HI6.out.step (Fr.one _ p 1 (.int .i64 ((j6 : Int) + 3))) (HI6.out.1.setAtI _ (j6 + 3) (by omega)) (show j6 + 3 ≤ s.size by simp at HLS; omega) (by omega))
        have HF7 := Lib.hid (HF3.out.trans (((Fr.one _ p 1 (.int .i64 ((j : Int) + (z.size : Int)))).trans HF6.out).trans (Fr.one _ p 1 (.int .i64 ((j6 : Int) + 3)))))
        have HSS := Lib.hid (HS.out _ _ _ _ _ c HI7.out)
        go_upto_region 14 with (first
          | (go_at_call 9; (with_reducible refine HSS.out.mono ?_); rintro e w8 ⟨v, k8, d8, sv8, o8, form8, err8, R, rfl, hv, hI8, hF8, hk8, ho8, hP, hR⟩))
        obtain ⟨d9, rfl, hd9⟩ := hR.lift hd
        have HV := Lib.hid hv
        have HR := Lib.hid hR
        have HI8 := Lib.hid hI8
        have HP := Lib.hid hP
        have hk8s := hI8.2.2.2.2.2.2.1
        have HF8 := Lib.hid (HF7.out.up.trans hF8)
        have HO8 := Lib.hid ho8
        have H00 := Lib.hid (show o.length ≤ k from H0L.out)
        clear c1 f1 HSS
        have hI8d := hI8.step0 ((Fr.refl (fun _ => False) w8).drew)
        have hnm := rname_any w8.drew B p s k8 (d9 + 1) gv sv8 g o8 form8 err8 wd c hI8d.2.1 hI8d.2.2.2.1 hI8d.2.2.2.2.1 hI8d.2.2.2.2.2.1 hI8d.1
        have hgi := i64_getV (g := g) wd hI8.2.2.2.2.2.1
        rw [HZ.out] at hnm
        rcases hgv : getV g o8 wd with ⟨x, ex⟩
        rw [hgv] at hnm hgi
        have HNM := Lib.hid hnm
        have HX2 := Lib.hid (show I64 x from hgi)
        have HGV := Lib.hid hgv
        have HRK := Lib.hid (fun (w9 : World) (h : RD w9 p s k8 (d9 + 1) gv sv8 form8 (bumpE err8 c ex)) => (show Calls Tryz.prog 16 #[.pointer (some ⟨p, 0, none⟩), .string ⟨#[62, 62]⟩, .int .i64 x, .int .i64 v, .bool c] w9 _ from rreckon_any w9 p s k8 (d9 + 1) gv sv8 form8 (bumpE err8 c ex) [62, 62] x v c (by decide) HX2.out HV.out h))
        have HOI := Lib.hid (show I64 (opI [62, 62] x v).1 from i64_op [62, 62] HX2.out)
        rcases hop : opI [62, 62] x v with ⟨v2, e2⟩
        rw [hop] at HRK HOI
        have HOP := Lib.hid hop
        clear hnm hgv hgi hop hv hR hI8 hI8d hP hF8 ho8 HLS
        refine wp_region_noPanic ?_
        refine wp_region_any (by kernel_rfl) (any_of_T (S := fun _ _ => True) _ _ _ _ ?_)
        change anyT _ _ _ _ _ _ _ _ w8.drew
        refine anyT_take (i := 0) (v := .pointer (some ⟨p, 0, none⟩)) (fun _ => True) rfl (by kernel_rfl) (by kernel_rfl) (by kernel_rfl) (fun _ _ _ h => h) (fun _ _ _ _ hS => hS) (fun _ _ => Iff.rfl) (Clos.start _) (Or.inl ⟨by kernel_rfl, ?ay7x0⟩) trivial (fun ac0 aS0 => ?ar7x0)
        case ay7x0 => (intro W' hSw; go_simp; try (first | rfl | decide | decide +kernel))
        try simp only [Act.put, List.setIfInBounds_toArray, List.set_cons_zero, List.set_cons_succ]
        refine anyT_take (i := 1) (v := .string ⟨#[62, 62, 61]⟩) (fun _ => True) rfl (by kernel_rfl) (by kernel_rfl) (by kernel_rfl) (fun _ _ _ h => h) (fun _ _ _ _ hS => hS) (fun _ _ => Iff.rfl) ac0 (Or.inl ⟨by kernel_rfl, ?ay7x1⟩) trivial (fun ac1 aS1 => ?ar7x1)
        case ay7x1 => (intro W' hSw; go_simp; try (first | rfl | decide | decide +kernel))
        try simp only [Act.put, List.setIfInBounds_toArray, List.set_cons_zero, List.set_cons_succ]
        refine anyT_take (i := 2) (v := .int .i64 3) (fun _ => True) rfl (by kernel_rfl) (by kernel_rfl) (by kernel_rfl) (fun _ _ _ h => h) (fun _ _ _ _ hS => hS) (fun _ _ => Iff.rfl) ac1 (Or.inl ⟨by kernel_rfl, ?ay7x2⟩) trivial (fun ac2 aS2 => ?ar7x2)
        case ay7x2 => (intro W' hSw; go_simp; try (first | rfl | decide | decide +kernel))
        try simp only [Act.put, List.setIfInBounds_toArray, List.set_cons_zero, List.set_cons_succ]
        refine anyT_take (i := 3) (v := .int .i64 2) (fun _ => True) rfl (by kernel_rfl) (by kernel_rfl) (by kernel_rfl) (fun _ _ _ h => h) (fun _ _ _ _ hS => hS) (fun _ _ => Iff.rfl) ac2 (Or.inl ⟨by kernel_rfl, ?ay7x3⟩) trivial (fun ac3 aS3 => ?ar7x3)
        case ay7x3 => (intro W' hSw; go_simp; try (first | rfl | decide | decide +kernel))
        try simp only [Act.put, List.setIfInBounds_toArray, List.set_cons_zero, List.set_cons_succ]
        refine anyT_take (i := 4) (v := .string ⟨#[62, 62]⟩) (fun _ => True) rfl (by kernel_rfl) (by kernel_rfl) (by kernel_rfl) (fun _ _ _ h => h) (fun _ _ _ _ hS => hS) (fun _ _ => Iff.rfl) ac3 (Or.inl ⟨by kernel_rfl, ?ay7x4⟩) trivial (fun ac4 aS4 => ?ar7x4)
        case ay7x4 => (intro W' hSw; go_simp; try (first | rfl | decide | decide +kernel))
        try simp only [Act.put, List.setIfInBounds_toArray, List.set_cons_zero, List.set_cons_succ]
        refine anyT_take (i := 5) (v := .pointer (some ⟨p, 0, none⟩)) (fun _ => True) rfl (by kernel_rfl) (by kernel_rfl) (by kernel_rfl) (fun _ _ _ h => h) (fun _ _ _ _ hS => hS) (fun _ _ => Iff.rfl) ac4 (Or.inl ⟨by kernel_rfl, ?ay7x5⟩) trivial (fun ac5 aS5 => ?ar7x5)
        case ay7x5 => (intro W' hSw; go_simp; try (first | rfl | decide | decide +kernel))
        try simp only [Act.put, List.setIfInBounds_toArray, List.set_cons_zero, List.set_cons_succ]
        refine anyT_take (i := 6) (v := .string z) (fun _ => True) rfl (by kernel_rfl) (by kernel_rfl) (by kernel_rfl) (fun _ _ _ h => h) (fun _ _ _ _ hS => hS) (fun _ _ => Iff.rfl) ac5 (Or.inl ⟨by kernel_rfl, ?ay7x6⟩) trivial (fun ac6 aS6 => ?ar7x6)
        case ay7x6 => (intro W' hSw; go_simp; try (first | rfl | decide | decide +kernel))
        try simp only [Act.put, List.setIfInBounds_toArray, List.set_cons_zero, List.set_cons_succ]
        refine anyT_take (i := 7) (v := .bool c) (fun _ => True) rfl (by kernel_rfl) (by kernel_rfl) (by kernel_rfl) (fun _ _ _ h => h) (fun _ _ _ _ hS => hS) (fun _ _ => Iff.rfl) ac6 (Or.inl ⟨by kernel_rfl, ?ay7x7⟩) trivial (fun ac7 aS7 => ?ar7x7)
        case ay7x7 => (intro W' hSw; go_simp; try (first | rfl | decide | decide +kernel))
        try simp only [Act.put, List.setIfInBounds_toArray, List.set_cons_zero, List.set_cons_succ]
        refine anyT_take (i := 9) (v := .int .i64 v) (fun _ => True) rfl (by kernel_rfl) (by kernel_rfl) (by kernel_rfl) (fun _ _ _ h => h) (fun _ _ _ _ hS => hS) (fun _ _ => Iff.rfl) ac7 (Or.inl ⟨by kernel_rfl, ?ay7x9⟩) trivial (fun ac9 aS9 => ?ar7x9)
        case ay7x9 => (intro W' hSw; go_simp; try (first | rfl | decide | decide +kernel))
        try simp only [Act.put, List.setIfInBounds_toArray, List.set_cons_zero, List.set_cons_succ]
        refine anyT_take (i := 10) (v := .bool c) (fun _ => True) rfl (by kernel_rfl) (by kernel_rfl) (by kernel_rfl) (fun _ _ _ h => h) (fun _ _ _ _ hS => hS) (fun _ _ => Iff.rfl) ac9 (Or.inl ⟨by kernel_rfl, ?ay7x10⟩) trivial (fun ac10 aS10 => ?ar7x10)
        case ay7x10 => (intro W' hSw; go_simp; try (first | rfl | decide | decide +kernel))
        try simp only [Act.put, List.setIfInBounds_toArray, List.set_cons_zero, List.set_cons_succ]
        refine anyT_step (k := 8) (by kernel_rfl) rfl (fun K hK => ?as7x8)
        case as7x8 =>
          have HK := Lib.hid hK
          clear hK
          go_simp
          refine HNM.out.mono ?_
          rintro e w9 ⟨rfl, hR9, hF9⟩
          have HRK9 := Lib.hid (HRK.out w9 hR9)
          have HF9 := Lib.hid (((Fr.refl (· = p) w8).drew).trans hF9)
          clear hR9 hF9
          refine HK.out _ _ trivial ?_
          clear HK
          try simp only [Act.put, List.setIfInBounds_toArray, List.set_cons_zero, List.set_cons_succ]
          refine anyT_step (k := 11) (by kernel_rfl) rfl (fun K hK => ?as7x11)
          case as7x11 =>
            have HK := Lib.hid hK
            clear hK
            go_simp
            refine HRK9.out.mono ?_
            rintro e w10 ⟨rfl, hR10, hF10⟩
            have HR10 := Lib.hid hR10
            have HF10 := Lib.hid (HF9.out.trans hF10)
            clear hR10 hF10
            refine HK.out _ _ trivial ?_
            clear HK
            try simp only [Act.put, List.setIfInBounds_toArray, List.set_cons_zero, List.set_cons_succ]
            refine anyT_step (k := 12) (by kernel_rfl) rfl (fun K hK => ?as7x12)
            case as7x12 =>
              have HK := Lib.hid hK
              clear hK
              go_simp
              refine HK.out _ _ trivial ?_
              clear HK
              try simp only [Act.put, List.setIfInBounds_toArray, List.set_cons_zero, List.set_cons_succ]
              refine anyT_done (by kernel_rfl) ?_
              refine NoPanic.normal ?_
              obtain ⟨c0, c1, c2, c3, c4, c5, c6, fz⟩ := HR10.out.cells
              have f2 := fz 2
              have HI10 := Lib.hid (HI8.out.step HF10.out HR10.out hk8s (Nat.le_refl _))
              generalize he10 : bumpE (bumpE err8 c ex) c e2 = e10 at *
              have HE10 := Lib.hid he10
              have HFa := Lib.hid (HF8.out.trans HF10.out.up)
              have HEV := Lib.hid (fun n (h : evC g n (o, err) c = (v, (o8, err8))) => (show evC g (.asg wd [62, 62] n) (o, err) c = (v2, if c = true ∧ e10 = 0 then (setV o8 wd v2, 0) else (o8, e10)) from by
                rw [evC, h]
                dsimp only
                rw [if_neg (by decide), HGV.out, HOP.out, bump_E, bump_E, HE10.out]
                rfl))
              clear c0 c1 c3 c4 c5 fz he10 HF10 HR10 HGV HOP HRK HNM HE10
              cases c with
              | false =>
                have HNO : Hid (¬ (false = true ∧ e10 = 0)) := Lib.hid (fun h => by cases h.1)
                go_wp2
                go_ret
                exact sets_end hd HN.out (by decide) HTK.out HP.out HR.out (HFa.out.trans (Fr.one _ _ _ _).up) HOI.out (HI10.out.step (Fr.one _ _ _ _) (HI10.out.1.setDeepI _ d9 (by omega)) hk8s (Nat.le_refl _)) (by omega) (by have := HO8.out; omega) (fun n h => by rw [show ([62, 62, 61] : Bs).dropLast = [62, 62] from rfl, HEV.out n h, if_neg HNO.out])
              | true =>
                by_cases he : e10 = 0
                · subst he
                  have HST := Lib.hid (rstore_any w10 p s k8 (d9 + 1) gv sv8 o8 form8 0 wd v2 HOI.out (by have := HI8.out.2.2.2.2.2.2.2; omega) HI10.out.2.2.2.1 HI10.out.1)
                  rw [HZ.out] at HST
                  clear c2 f2
                  go_upto_region 17 with (first
                    | (go_at_call 18; (with_reducible refine HST.out.mono ?_); rintro e w11 ⟨rfl, sv11, hR11, hS11, hF11⟩))
                  obtain ⟨c0, c1, c2, c3, c4, c5, c6, fz⟩ := hR11.cells
                  have f2 := fz 2
                  have HI11 := Lib.hid (HI10.out.stored HOI.out (by have := HO8.out; have := H00.out; omega) hR11 hS11 hF11)
                  have HFb := Lib.hid (HFa.out.trans hF11)
                  clear c0 c1 c3 c4 c5 c6 fz hR11 hS11 hF11
                  go_wp2
                  go_ret
                  exact sets_end hd HN.out (by decide) HTK.out HP.out HR.out (HFb.out.trans (Fr.one _ _ _ _).up) HOI.out (HI11.out.step (Fr.one _ _ _ _) (HI11.out.1.setDeepI _ d9 (by omega)) hk8s (Nat.le_refl _)) (by omega) (by have := HO8.out; have := setV_len o8 wd v2; omega) (fun n h => by rw [show ([62, 62, 61] : Bs).dropLast = [62, 62] from rfl, HEV.out n h, if_pos (by simp)])
                · have HNO : Hid (¬ (true = true ∧ e10 = 0)) := Lib.hid (fun h => he h.2)
                  have g15 : (e10 == 0) = false := by simpa using he
                  clear he
                  go_wp2
                  go_ret
                  exact sets_end hd HN.out (by decide) HTK.out HP.out HR.out (HFa.out.trans (Fr.one _ _ _ _).up) HOI.out (HI10.out.step (Fr.one _ _ _ _) (HI10.out.1.setDeepI _ d9 (by omega)) hk8s (Nat.le_refl _)) (by omega) (by have := HO8.out; omega) (fun n h => by rw [show ([62, 62, 61] : Bs).dropLast = [62, 62] from rfl, HEV.out n h, if_neg HNO.out])
      · rw [show st [38, 61] = (⟨#[38, 61]⟩ : ByteArray) from rfl]
        go_upto_region 12 with (fail)
        have HI7 := Lib.hid (HI6.out.step (Fr.one _ p 1 (.int .i64 ((j6 : Int) + 2))) (HI6.out.1.setAtI _ (j6 + 2) (by omega)) (show j6 + 2 ≤ s.size by simp at HLS; omega) (by omega))
        have HF7 := Lib.hid (HF3.out.trans (((Fr.one _ p 1 (.int .i64 ((j : Int) + (z.size : Int)))).trans HF6.out).trans (Fr.one _ p 1 (.int .i64 ((j6 : Int) + 2)))))
        have HSS := Lib.hid (HS.out _ _ _ _ _ c HI7.out)
        go_upto_region 14 with (first
          | (go_at_call 9; (with_reducible refine HSS.out.mono ?_); rintro e w8 ⟨v, k8, d8, sv8, o8, form8, err8, R, rfl, hv, hI8, hF8, hk8, ho8, hP, hR⟩))
        obtain ⟨d9, rfl, hd9⟩ := hR.lift hd
        have HV := Lib.hid hv
        have HR := Lib.hid hR
        have HI8 := Lib.hid hI8
        have HP := Lib.hid hP
        have hk8s := hI8.2.2.2.2.2.2.1
        have HF8 := Lib.hid (HF7.out.up.trans hF8)
        have HO8 := Lib.hid ho8
        have H00 := Lib.hid (show o.length ≤ k from H0L.out)
        clear c1 f1 HSS
        have hI8d := hI8.step0 ((Fr.refl (fun _ => False) w8).drew)
        have hnm := rname_any w8.drew B p s k8 (d9 + 1) gv sv8 g o8 form8 err8 wd c hI8d.2.1 hI8d.2.2.2.1 hI8d.2.2.2.2.1 hI8d.2.2.2.2.2.1 hI8d.1
        have hgi := i64_getV (g := g) wd hI8.2.2.2.2.2.1
        rw [HZ.out] at hnm
        rcases hgv : getV g o8 wd with ⟨x, ex⟩
        rw [hgv] at hnm hgi
        have HNM := Lib.hid hnm
        have HX2 := Lib.hid (show I64 x from hgi)
        have HGV := Lib.hid hgv
        have HRK := Lib.hid (fun (w9 : World) (h : RD w9 p s k8 (d9 + 1) gv sv8 form8 (bumpE err8 c ex)) => (show Calls Tryz.prog 16 #[.pointer (some ⟨p, 0, none⟩), .string ⟨#[38]⟩, .int .i64 x, .int .i64 v, .bool c] w9 _ from rreckon_any w9 p s k8 (d9 + 1) gv sv8 form8 (bumpE err8 c ex) [38] x v c (by decide) HX2.out HV.out h))
        have HOI := Lib.hid (show I64 (opI [38] x v).1 from i64_op [38] HX2.out)
        rcases hop : opI [38] x v with ⟨v2, e2⟩
        rw [hop] at HRK HOI
        have HOP := Lib.hid hop
        clear hnm hgv hgi hop hv hR hI8 hI8d hP hF8 ho8 HLS
        refine wp_region_noPanic ?_
        refine wp_region_any (by kernel_rfl) (any_of_T (S := fun _ _ => True) _ _ _ _ ?_)
        change anyT _ _ _ _ _ _ _ _ w8.drew
        refine anyT_take (i := 0) (v := .pointer (some ⟨p, 0, none⟩)) (fun _ => True) rfl (by kernel_rfl) (by kernel_rfl) (by kernel_rfl) (fun _ _ _ h => h) (fun _ _ _ _ hS => hS) (fun _ _ => Iff.rfl) (Clos.start _) (Or.inl ⟨by kernel_rfl, ?ay8x0⟩) trivial (fun ac0 aS0 => ?ar8x0)
        case ay8x0 => (intro W' hSw; go_simp; try (first | rfl | decide | decide +kernel))
        try simp only [Act.put, List.setIfInBounds_toArray, List.set_cons_zero, List.set_cons_succ]
        refine anyT_take (i := 1) (v := .string ⟨#[38, 61]⟩) (fun _ => True) rfl (by kernel_rfl) (by kernel_rfl) (by kernel_rfl) (fun _ _ _ h => h) (fun _ _ _ _ hS => hS) (fun _ _ => Iff.rfl) ac0 (Or.inl ⟨by kernel_rfl, ?ay8x1⟩) trivial (fun ac1 aS1 => ?ar8x1)
        case ay8x1 => (intro W' hSw; go_simp; try (first | rfl | decide | decide +kernel))
        try simp only [Act.put, List.setIfInBounds_toArray, List.set_cons_zero, List.set_cons_succ]
        refine anyT_take (i := 2) (v := .int .i64 2) (fun _ => True) rfl (by kernel_rfl) (by kernel_rfl) (by kernel_rfl) (fun _ _ _ h => h) (fun _ _ _ _ hS => hS) (fun _ _ => Iff.rfl) ac1 (Or.inl ⟨by kernel_rfl, ?ay8x2⟩) trivial (fun ac2 aS2 => ?ar8x2)
        case ay8x2 => (intro W' hSw; go_simp; try (first | rfl | decide | decide +kernel))
        try simp only [Act.put, List.setIfInBounds_toArray, List.set_cons_zero, List.set_cons_succ]
        refine anyT_take (i := 3) (v := .int .i64 1) (fun _ => True) rfl (by kernel_rfl) (by kernel_rfl) (by kernel_rfl) (fun _ _ _ h => h) (fun _ _ _ _ hS => hS) (fun _ _ => Iff.rfl) ac2 (Or.inl ⟨by kernel_rfl, ?ay8x3⟩) trivial (fun ac3 aS3 => ?ar8x3)
        case ay8x3 => (intro W' hSw; go_simp; try (first | rfl | decide | decide +kernel))
        try simp only [Act.put, List.setIfInBounds_toArray, List.set_cons_zero, List.set_cons_succ]
        refine anyT_take (i := 4) (v := .string ⟨#[38]⟩) (fun _ => True) rfl (by kernel_rfl) (by kernel_rfl) (by kernel_rfl) (fun _ _ _ h => h) (fun _ _ _ _ hS => hS) (fun _ _ => Iff.rfl) ac3 (Or.inl ⟨by kernel_rfl, ?ay8x4⟩) trivial (fun ac4 aS4 => ?ar8x4)
        case ay8x4 => (intro W' hSw; go_simp; try (first | rfl | decide | decide +kernel))
        try simp only [Act.put, List.setIfInBounds_toArray, List.set_cons_zero, List.set_cons_succ]
        refine anyT_take (i := 5) (v := .pointer (some ⟨p, 0, none⟩)) (fun _ => True) rfl (by kernel_rfl) (by kernel_rfl) (by kernel_rfl) (fun _ _ _ h => h) (fun _ _ _ _ hS => hS) (fun _ _ => Iff.rfl) ac4 (Or.inl ⟨by kernel_rfl, ?ay8x5⟩) trivial (fun ac5 aS5 => ?ar8x5)
        case ay8x5 => (intro W' hSw; go_simp; try (first | rfl | decide | decide +kernel))
        try simp only [Act.put, List.setIfInBounds_toArray, List.set_cons_zero, List.set_cons_succ]
        refine anyT_take (i := 6) (v := .string z) (fun _ => True) rfl (by kernel_rfl) (by kernel_rfl) (by kernel_rfl) (fun _ _ _ h => h) (fun _ _ _ _ hS => hS) (fun _ _ => Iff.rfl) ac5 (Or.inl ⟨by kernel_rfl, ?ay8x6⟩) trivial (fun ac6 aS6 => ?ar8x6)
        case ay8x6 => (intro W' hSw; go_simp; try (first | rfl | decide | decide +kernel))
        try simp only [Act.put, List.setIfInBounds_toArray, List.set_cons_zero, List.set_cons_succ]
        refine anyT_take (i := 7) (v := .bool c) (fun _ => True) rfl (by kernel_rfl) (by kernel_rfl) (by kernel_rfl) (fun _ _ _ h => h) (fun _ _ _ _ hS => hS) (fun _ _ => Iff.rfl) ac6 (Or.inl ⟨by kernel_rfl, ?ay8x7⟩) trivial (fun ac7 aS7 => ?ar8x7)
        case ay8x7 => (intro W' hSw; go_simp; try (first | rfl | decide | decide +kernel))
        try simp only [Act.put, List.setIfInBounds_toArray, List.set_cons_zero, List.set_cons_succ]
        refine anyT_take (i := 9) (v := .int .i64 v) (fun _ => True) rfl (by kernel_rfl) (by kernel_rfl) (by kernel_rfl) (fun _ _ _ h => h) (fun _ _ _ _ hS => hS) (fun _ _ => Iff.rfl) ac7 (Or.inl ⟨by kernel_rfl, ?ay8x9⟩) trivial (fun ac9 aS9 => ?ar8x9)
        case ay8x9 => (intro W' hSw; go_simp; try (first | rfl | decide | decide +kernel))
        try simp only [Act.put, List.setIfInBounds_toArray, List.set_cons_zero, List.set_cons_succ]
        refine anyT_take (i := 10) (v := .bool c) (fun _ => True) rfl (by kernel_rfl) (by kernel_rfl) (by kernel_rfl) (fun _ _ _ h => h) (fun _ _ _ _ hS => hS) (fun _ _ => Iff.rfl) ac9 (Or.inl ⟨by kernel_rfl, ?ay8x10⟩) trivial (fun ac10 aS10 => ?ar8x10)
        case ay8x10 => (intro W' hSw; go_simp; try (first | rfl | decide | decide +kernel))
        try simp only [Act.put, List.setIfInBounds_toArray, List.set_cons_zero, List.set_cons_succ]
        refine anyT_step (k := 8) (by kernel_rfl) rfl (fun K hK => ?as8x8)
        case as8x8 =>
          have HK := Lib.hid hK
          clear hK
          go_simp
          refine HNM.out.mono ?_
          rintro e w9 ⟨rfl, hR9, hF9⟩
          have HRK9 := Lib.hid (HRK.out w9 hR9)
          have HF9 := Lib.hid (((Fr.refl (· = p) w8).drew).trans hF9)
          clear hR9 hF9
          refine HK.out _ _ trivial ?_
          clear HK
          try simp only [Act.put, List.setIfInBounds_toArray, List.set_cons_zero, List.set_cons_succ]
          refine anyT_step (k := 11) (by kernel_rfl) rfl (fun K hK => ?as8x11)
          case as8x11 =>
            have HK := Lib.hid hK
            clear hK
            go_simp
            refine HRK9.out.mono ?_
            rintro e w10 ⟨rfl, hR10, hF10⟩
            have HR10 := Lib.hid hR10
            have HF10 := Lib.hid (HF9.out.trans hF10)
            clear hR10 hF10
            refine HK.out _ _ trivial ?_
            clear HK
            try simp only [Act.put, List.setIfInBounds_toArray, List.set_cons_zero, List.set_cons_succ]
            refine anyT_step (k := 12) (by kernel_rfl) rfl (fun K hK => ?as8x12)
            case as8x12 =>
              have HK := Lib.hid hK
              clear hK
              go_simp
              refine HK.out _ _ trivial ?_
              clear HK
              try simp only [Act.put, List.setIfInBounds_toArray, List.set_cons_zero, List.set_cons_succ]
              refine anyT_done (by kernel_rfl) ?_
              refine NoPanic.normal ?_
              obtain ⟨c0, c1, c2, c3, c4, c5, c6, fz⟩ := HR10.out.cells
              have f2 := fz 2
              have HI10 := Lib.hid (HI8.out.step HF10.out HR10.out hk8s (Nat.le_refl _))
              generalize he10 : bumpE (bumpE err8 c ex) c e2 = e10 at *
              have HE10 := Lib.hid he10
              have HFa := Lib.hid (HF8.out.trans HF10.out.up)
              have HEV := Lib.hid (fun n (h : evC g n (o, err) c = (v, (o8, err8))) => (show evC g (.asg wd [38] n) (o, err) c = (v2, if c = true ∧ e10 = 0 then (setV o8 wd v2, 0) else (o8, e10)) from by
                rw [evC, h]
                dsimp only
                rw [if_neg (by decide), HGV.out, HOP.out, bump_E, bump_E, HE10.out]
                rfl))
              clear c0 c1 c3 c4 c5 fz he10 HF10 HR10 HGV HOP HRK HNM HE10
              cases c with
              | false =>
                have HNO : Hid (¬ (false = true ∧ e10 = 0)) := Lib.hid (fun h => by cases h.1)
                go_wp2
                go_ret
                exact sets_end hd HN.out (by decide) HTK.out HP.out HR.out (HFa.out.trans (Fr.one _ _ _ _).up) HOI.out (HI10.out.step (Fr.one _ _ _ _) (HI10.out.1.setDeepI _ d9 (by omega)) hk8s (Nat.le_refl _)) (by omega) (by have := HO8.out; omega) (fun n h => by rw [show ([38, 61] : Bs).dropLast = [38] from rfl, HEV.out n h, if_neg HNO.out])
              | true =>
                by_cases he : e10 = 0
                · subst he
                  have HST := Lib.hid (rstore_any w10 p s k8 (d9 + 1) gv sv8 o8 form8 0 wd v2 HOI.out (by have := HI8.out.2.2.2.2.2.2.2; omega) HI10.out.2.2.2.1 HI10.out.1)
                  rw [HZ.out] at HST
                  clear c2 f2
                  go_upto_region 17 with (first
                    | (go_at_call 18; (with_reducible refine HST.out.mono ?_); rintro e w11 ⟨rfl, sv11, hR11, hS11, hF11⟩))
                  obtain ⟨c0, c1, c2, c3, c4, c5, c6, fz⟩ := hR11.cells
                  have f2 := fz 2
                  have HI11 := Lib.hid (HI10.out.stored HOI.out (by have := HO8.out; have := H00.out; omega) hR11 hS11 hF11)
                  have HFb := Lib.hid (HFa.out.trans hF11)
                  clear c0 c1 c3 c4 c5 c6 fz hR11 hS11 hF11
                  go_wp2
                  go_ret
                  exact sets_end hd HN.out (by decide) HTK.out HP.out HR.out (HFb.out.trans (Fr.one _ _ _ _).up) HOI.out (HI11.out.step (Fr.one _ _ _ _) (HI11.out.1.setDeepI _ d9 (by omega)) hk8s (Nat.le_refl _)) (by omega) (by have := HO8.out; have := setV_len o8 wd v2; omega) (fun n h => by rw [show ([38, 61] : Bs).dropLast = [38] from rfl, HEV.out n h, if_pos (by simp)])
                · have HNO : Hid (¬ (true = true ∧ e10 = 0)) := Lib.hid (fun h => he h.2)
                  have g15 : (e10 == 0) = false := by simpa using he
                  clear he
                  go_wp2
                  go_ret
                  exact sets_end hd HN.out (by decide) HTK.out HP.out HR.out (HFa.out.trans (Fr.one _ _ _ _).up) HOI.out (HI10.out.step (Fr.one _ _ _ _) (HI10.out.1.setDeepI _ d9 (by omega)) hk8s (Nat.le_refl _)) (by omega) (by have := HO8.out; omega) (fun n h => by rw [show ([38, 61] : Bs).dropLast = [38] from rfl, HEV.out n h, if_neg HNO.out])
      · rw [show st [94, 61] = (⟨#[94, 61]⟩ : ByteArray) from rfl]
        go_upto_region 12 with (fail)
        have HI7 := Lib.hid (HI6.out.step (Fr.one _ p 1 (.int .i64 ((j6 : Int) + 2))) (HI6.out.1.setAtI _ (j6 + 2) (by omega)) (show j6 + 2 ≤ s.size by simp at HLS; omega) (by omega))
        have HF7 := Lib.hid (HF3.out.trans (((Fr.one _ p 1 (.int .i64 ((j : Int) + (z.size : Int)))).trans HF6.out).trans (Fr.one _ p 1 (.int .i64 ((j6 : Int) + 2)))))
        have HSS := Lib.hid (HS.out _ _ _ _ _ c HI7.out)
        go_upto_region 14 with (first
          | (go_at_call 9; (with_reducible refine HSS.out.mono ?_); rintro e w8 ⟨v, k8, d8, sv8, o8, form8, err8, R, rfl, hv, hI8, hF8, hk8, ho8, hP, hR⟩))
        obtain ⟨d9, rfl, hd9⟩ := hR.lift hd
        have HV := Lib.hid hv
        have HR := Lib.hid hR
        have HI8 := Lib.hid hI8
        have HP := Lib.hid hP
        have hk8s := hI8.2.2.2.2.2.2.1
        have HF8 := Lib.hid (HF7.out.up.trans hF8)
        have HO8 := Lib.hid ho8
        have H00 := Lib.hid (show o.length ≤ k from H0L.out)
        clear c1 f1 HSS
        have hI8d := hI8.step0 ((Fr.refl (fun _ => False) w8).drew)
        have hnm := rname_any w8.drew B p s k8 (d9 + 1) gv sv8 g o8 form8 err8 wd c hI8d.2.1 hI8d.2.2.2.1 hI8d.2.2.2.2.1 hI8d.2.2.2.2.2.1 hI8d.1
        have hgi := i64_getV (g := g) wd hI8.2.2.2.2.2.1
        rw [HZ.out] at hnm
        rcases hgv : getV g o8 wd with ⟨x, ex⟩
        rw [hgv] at hnm hgi
        have HNM := Lib.hid hnm
        have HX2 := Lib.hid (show I64 x from hgi)
        have HGV := Lib.hid hgv
        have HRK := Lib.hid (fun (w9 : World) (h : RD w9 p s k8 (d9 + 1) gv sv8 form8 (bumpE err8 c ex)) => (show Calls Tryz.prog 16 #[.pointer (some ⟨p, 0, none⟩), .string ⟨#[94]⟩, .int .i64 x, .int .i64 v, .bool c] w9 _ from rreckon_any w9 p s k8 (d9 + 1) gv sv8 form8 (bumpE err8 c ex) [94] x v c (by decide) HX2.out HV.out h))
        have HOI := Lib.hid (show I64 (opI [94] x v).1 from i64_op [94] HX2.out)
        rcases hop : opI [94] x v with ⟨v2, e2⟩
        rw [hop] at HRK HOI
        have HOP := Lib.hid hop
        clear hnm hgv hgi hop hv hR hI8 hI8d hP hF8 ho8 HLS
        refine wp_region_noPanic ?_
        refine wp_region_any (by kernel_rfl) (any_of_T (S := fun _ _ => True) _ _ _ _ ?_)
        change anyT _ _ _ _ _ _ _ _ w8.drew
        refine anyT_take (i := 0) (v := .pointer (some ⟨p, 0, none⟩)) (fun _ => True) rfl (by kernel_rfl) (by kernel_rfl) (by kernel_rfl) (fun _ _ _ h => h) (fun _ _ _ _ hS => hS) (fun _ _ => Iff.rfl) (Clos.start _) (Or.inl ⟨by kernel_rfl, ?ay9x0⟩) trivial (fun ac0 aS0 => ?ar9x0)
        case ay9x0 => (intro W' hSw; go_simp; try (first | rfl | decide | decide +kernel))
        try simp only [Act.put, List.setIfInBounds_toArray, List.set_cons_zero, List.set_cons_succ]
        refine anyT_take (i := 1) (v := .string ⟨#[94, 61]⟩) (fun _ => True) rfl (by kernel_rfl) (by kernel_rfl) (by kernel_rfl) (fun _ _ _ h => h) (fun _ _ _ _ hS => hS) (fun _ _ => Iff.rfl) ac0 (Or.inl ⟨by kernel_rfl, ?ay9x1⟩) trivial (fun ac1 aS1 => ?ar9x1)
        case ay9x1 => (intro W' hSw; go_simp; try (first | rfl | decide | decide +kernel))
        try simp only [Act.put, List.setIfInBounds_toArray, List.set_cons_zero, List.set_cons_succ]
        refine anyT_take (i := 2) (v := .int .i64 2) (fun _ => True) rfl (by kernel_rfl) (by kernel_rfl) (by kernel_rfl) (fun _ _ _ h => h) (fun _ _ _ _ hS => hS) (fun _ _ => Iff.rfl) ac1 (Or.inl ⟨by kernel_rfl, ?ay9x2⟩) trivial (fun ac2 aS2 => ?ar9x2)
        case ay9x2 => (intro W' hSw; go_simp; try (first | rfl | decide | decide +kernel))
        try simp only [Act.put, List.setIfInBounds_toArray, List.set_cons_zero, List.set_cons_succ]
        refine anyT_take (i := 3) (v := .int .i64 1) (fun _ => True) rfl (by kernel_rfl) (by kernel_rfl) (by kernel_rfl) (fun _ _ _ h => h) (fun _ _ _ _ hS => hS) (fun _ _ => Iff.rfl) ac2 (Or.inl ⟨by kernel_rfl, ?ay9x3⟩) trivial (fun ac3 aS3 => ?ar9x3)
        case ay9x3 => (intro W' hSw; go_simp; try (first | rfl | decide | decide +kernel))
        try simp only [Act.put, List.setIfInBounds_toArray, List.set_cons_zero, List.set_cons_succ]
        refine anyT_take (i := 4) (v := .string ⟨#[94]⟩) (fun _ => True) rfl (by kernel_rfl) (by kernel_rfl) (by kernel_rfl) (fun _ _ _ h => h) (fun _ _ _ _ hS => hS) (fun _ _ => Iff.rfl) ac3 (Or.inl ⟨by kernel_rfl, ?ay9x4⟩) trivial (fun ac4 aS4 => ?ar9x4)
        case ay9x4 => (intro W' hSw; go_simp; try (first | rfl | decide | decide +kernel))
        try simp only [Act.put, List.setIfInBounds_toArray, List.set_cons_zero, List.set_cons_succ]
        refine anyT_take (i := 5) (v := .pointer (some ⟨p, 0, none⟩)) (fun _ => True) rfl (by kernel_rfl) (by kernel_rfl) (by kernel_rfl) (fun _ _ _ h => h) (fun _ _ _ _ hS => hS) (fun _ _ => Iff.rfl) ac4 (Or.inl ⟨by kernel_rfl, ?ay9x5⟩) trivial (fun ac5 aS5 => ?ar9x5)
        case ay9x5 => (intro W' hSw; go_simp; try (first | rfl | decide | decide +kernel))
        try simp only [Act.put, List.setIfInBounds_toArray, List.set_cons_zero, List.set_cons_succ]
        refine anyT_take (i := 6) (v := .string z) (fun _ => True) rfl (by kernel_rfl) (by kernel_rfl) (by kernel_rfl) (fun _ _ _ h => h) (fun _ _ _ _ hS => hS) (fun _ _ => Iff.rfl) ac5 (Or.inl ⟨by kernel_rfl, ?ay9x6⟩) trivial (fun ac6 aS6 => ?ar9x6)
        case ay9x6 => (intro W' hSw; go_simp; try (first | rfl | decide | decide +kernel))
        try simp only [Act.put, List.setIfInBounds_toArray, List.set_cons_zero, List.set_cons_succ]
        refine anyT_take (i := 7) (v := .bool c) (fun _ => True) rfl (by kernel_rfl) (by kernel_rfl) (by kernel_rfl) (fun _ _ _ h => h) (fun _ _ _ _ hS => hS) (fun _ _ => Iff.rfl) ac6 (Or.inl ⟨by kernel_rfl, ?ay9x7⟩) trivial (fun ac7 aS7 => ?ar9x7)
        case ay9x7 => (intro W' hSw; go_simp; try (first | rfl | decide | decide +kernel))
        try simp only [Act.put, List.setIfInBounds_toArray, List.set_cons_zero, List.set_cons_succ]
        refine anyT_take (i := 9) (v := .int .i64 v) (fun _ => True) rfl (by kernel_rfl) (by kernel_rfl) (by kernel_rfl) (fun _ _ _ h => h) (fun _ _ _ _ hS => hS) (fun _ _ => Iff.rfl) ac7 (Or.inl ⟨by kernel_rfl, ?ay9x9⟩) trivial (fun ac9 aS9 => ?ar9x9)
        case ay9x9 => (intro W' hSw; go_simp; try (first | rfl | decide | decide +kernel))
        try simp only [Act.put, List.setIfInBounds_toArray, List.set_cons_zero, List.set_cons_succ]
        refine anyT_take (i := 10) (v := .bool c) (fun _ => True) rfl (by kernel_rfl) (by kernel_rfl) (by kernel_rfl) (fun _ _ _ h => h) (fun _ _ _ _ hS => hS) (fun _ _ => Iff.rfl) ac9 (Or.inl ⟨by kernel_rfl, ?ay9x10⟩) trivial (fun ac10 aS10 => ?ar9x10)
        case ay9x10 => (intro W' hSw; go_simp; try (first | rfl | decide | decide +kernel))
        try simp only [Act.put, List.setIfInBounds_toArray, List.set_cons_zero, List.set_cons_succ]
        refine anyT_step (k := 8) (by kernel_rfl) rfl (fun K hK => ?as9x8)
        case as9x8 =>
          have HK := Lib.hid hK
          clear hK
          go_simp
          refine HNM.out.mono ?_
          rintro e w9 ⟨rfl, hR9, hF9⟩
          have HRK9 := Lib.hid (HRK.out w9 hR9)
          have HF9 := Lib.hid (((Fr.refl (· = p) w8).drew).trans hF9)
          clear hR9 hF9
          refine HK.out _ _ trivial ?_
          clear HK
          try simp only [Act.put, List.setIfInBounds_toArray, List.set_cons_zero, List.set_cons_succ]
          refine anyT_step (k := 11) (by kernel_rfl) rfl (fun K hK => ?as9x11)
          case as9x11 =>
            have HK := Lib.hid hK
            clear hK
            go_simp
            refine HRK9.out.mono ?_
            rintro e w10 ⟨rfl, hR10, hF10⟩
            have HR10 := Lib.hid hR10
            have HF10 := Lib.hid (HF9.out.trans hF10)
            clear hR10 hF10
            refine HK.out _ _ trivial ?_
            clear HK
            try simp only [Act.put, List.setIfInBounds_toArray, List.set_cons_zero, List.set_cons_succ]
            refine anyT_step (k := 12) (by kernel_rfl) rfl (fun K hK => ?as9x12)
            case as9x12 =>
              have HK := Lib.hid hK
              clear hK
              go_simp
              refine HK.out _ _ trivial ?_
              clear HK
              try simp only [Act.put, List.setIfInBounds_toArray, List.set_cons_zero, List.set_cons_succ]
              refine anyT_done (by kernel_rfl) ?_
              refine NoPanic.normal ?_
              obtain ⟨c0, c1, c2, c3, c4, c5, c6, fz⟩ := HR10.out.cells
              have f2 := fz 2
              have HI10 := Lib.hid (HI8.out.step HF10.out HR10.out hk8s (Nat.le_refl _))
              generalize he10 : bumpE (bumpE err8 c ex) c e2 = e10 at *
              have HE10 := Lib.hid he10
              have HFa := Lib.hid (HF8.out.trans HF10.out.up)
              have HEV := Lib.hid (fun n (h : evC g n (o, err) c = (v, (o8, err8))) => (show evC g (.asg wd [94] n) (o, err) c = (v2, if c = true ∧ e10 = 0 then (setV o8 wd v2, 0) else (o8, e10)) from by
                rw [evC, h]
                dsimp only
                rw [if_neg (by decide), HGV.out, HOP.out, bump_E, bump_E, HE10.out]
                rfl))
              clear c0 c1 c3 c4 c5 fz he10 HF10 HR10 HGV HOP HRK HNM HE10
              cases c with
              | false =>
                have HNO : Hid (¬ (false = true ∧ e10 = 0)) := Lib.hid (fun h => by cases h.1)
                go_wp2
                go_ret
                exact sets_end hd HN.out (by decide) HTK.out HP.out HR.out (HFa.out.trans (Fr.one _ _ _ _).up) HOI.out (HI10.out.step (Fr.one _ _ _ _) (HI10.out.1.setDeepI _ d9 (by omega)) hk8s (Nat.le_refl _)) (by omega) (by have := HO8.out; omega) (fun n h => by rw [show ([94, 61] : Bs).dropLast = [94] from rfl, HEV.out n h, if_neg HNO.out])
              | true =>
                by_cases he : e10 = 0
                · subst he
                  have HST := Lib.hid (rstore_any w10 p s k8 (d9 + 1) gv sv8 o8 form8 0 wd v2 HOI.out (by have := HI8.out.2.2.2.2.2.2.2; omega) HI10.out.2.2.2.1 HI10.out.1)
                  rw [HZ.out] at HST
                  clear c2 f2
                  go_upto_region 17 with (first
                    | (go_at_call 18; (with_reducible refine HST.out.mono ?_); rintro e w11 ⟨rfl, sv11, hR11, hS11, hF11⟩))
                  obtain ⟨c0, c1, c2, c3, c4, c5, c6, fz⟩ := hR11.cells
                  have f2 := fz 2
                  have HI11 := Lib.hid (HI10.out.stored HOI.out (by have := HO8.out; have := H00.out; omega) hR11 hS11 hF11)
                  have HFb := Lib.hid (HFa.out.trans hF11)
                  clear c0 c1 c3 c4 c5 c6 fz hR11 hS11 hF11
                  go_wp2
                  go_ret
                  exact sets_end hd HN.out (by decide) HTK.out HP.out HR.out (HFb.out.trans (Fr.one _ _ _ _).up) HOI.out (HI11.out.step (Fr.one _ _ _ _) (HI11.out.1.setDeepI _ d9 (by omega)) hk8s (Nat.le_refl _)) (by omega) (by have := HO8.out; have := setV_len o8 wd v2; omega) (fun n h => by rw [show ([94, 61] : Bs).dropLast = [94] from rfl, HEV.out n h, if_pos (by simp)])
                · have HNO : Hid (¬ (true = true ∧ e10 = 0)) := Lib.hid (fun h => he h.2)
                  have g15 : (e10 == 0) = false := by simpa using he
                  clear he
                  go_wp2
                  go_ret
                  exact sets_end hd HN.out (by decide) HTK.out HP.out HR.out (HFa.out.trans (Fr.one _ _ _ _).up) HOI.out (HI10.out.step (Fr.one _ _ _ _) (HI10.out.1.setDeepI _ d9 (by omega)) hk8s (Nat.le_refl _)) (by omega) (by have := HO8.out; omega) (fun n h => by rw [show ([94, 61] : Bs).dropLast = [94] from rfl, HEV.out n h, if_neg HNO.out])
      · rw [show st [124, 61] = (⟨#[124, 61]⟩ : ByteArray) from rfl]
        go_upto_region 12 with (fail)
        have HI7 := Lib.hid (HI6.out.step (Fr.one _ p 1 (.int .i64 ((j6 : Int) + 2))) (HI6.out.1.setAtI _ (j6 + 2) (by omega)) (show j6 + 2 ≤ s.size by simp at HLS; omega) (by omega))
        have HF7 := Lib.hid (HF3.out.trans (((Fr.one _ p 1 (.int .i64 ((j : Int) + (z.size : Int)))).trans HF6.out).trans (Fr.one _ p 1 (.int .i64 ((j6 : Int) + 2)))))
        have HSS := Lib.hid (HS.out _ _ _ _ _ c HI7.out)
        go_upto_region 14 with (first
          | (go_at_call 9; (with_reducible refine HSS.out.mono ?_); rintro e w8 ⟨v, k8, d8, sv8, o8, form8, err8, R, rfl, hv, hI8, hF8, hk8, ho8, hP, hR⟩))
        obtain ⟨d9, rfl, hd9⟩ := hR.lift hd
        have HV := Lib.hid hv
        have HR := Lib.hid hR
        have HI8 := Lib.hid hI8
        have HP := Lib.hid hP
        have hk8s := hI8.2.2.2.2.2.2.1
        have HF8 := Lib.hid (HF7.out.up.trans hF8)
        have HO8 := Lib.hid ho8
        have H00 := Lib.hid (show o.length ≤ k from H0L.out)
        clear c1 f1 HSS
        have hI8d := hI8.step0 ((Fr.refl (fun _ => False) w8).drew)
        have hnm := rname_any w8.drew B p s k8 (d9 + 1) gv sv8 g o8 form8 err8 wd c hI8d.2.1 hI8d.2.2.2.1 hI8d.2.2.2.2.1 hI8d.2.2.2.2.2.1 hI8d.1
        have hgi := i64_getV (g := g) wd hI8.2.2.2.2.2.1
        rw [HZ.out] at hnm
        rcases hgv : getV g o8 wd with ⟨x, ex⟩
        rw [hgv] at hnm hgi
        have HNM := Lib.hid hnm
        have HX2 := Lib.hid (show I64 x from hgi)
        have HGV := Lib.hid hgv
        have HRK := Lib.hid (fun (w9 : World) (h : RD w9 p s k8 (d9 + 1) gv sv8 form8 (bumpE err8 c ex)) => (show Calls Tryz.prog 16 #[.pointer (some ⟨p, 0, none⟩), .string ⟨#[124]⟩, .int .i64 x, .int .i64 v, .bool c] w9 _ from rreckon_any w9 p s k8 (d9 + 1) gv sv8 form8 (bumpE err8 c ex) [124] x v c (by decide) HX2.out HV.out h))
        have HOI := Lib.hid (show I64 (opI [124] x v).1 from i64_op [124] HX2.out)
        rcases hop : opI [124] x v with ⟨v2, e2⟩
        rw [hop] at HRK HOI
        have HOP := Lib.hid hop
        clear hnm hgv hgi hop hv hR hI8 hI8d hP hF8 ho8 HLS
        refine wp_region_noPanic ?_
        refine wp_region_any (by kernel_rfl) (any_of_T (S := fun _ _ => True) _ _ _ _ ?_)
        change anyT _ _ _ _ _ _ _ _ w8.drew
        refine anyT_take (i := 0) (v := .pointer (some ⟨p, 0, none⟩)) (fun _ => True) rfl (by kernel_rfl) (by kernel_rfl) (by kernel_rfl) (fun _ _ _ h => h) (fun _ _ _ _ hS => hS) (fun _ _ => Iff.rfl) (Clos.start _) (Or.inl ⟨by kernel_rfl, ?ay10x0⟩) trivial (fun ac0 aS0 => ?ar10x0)
        case ay10x0 => (intro W' hSw; go_simp; try (first | rfl | decide | decide +kernel))
        try simp only [Act.put, List.setIfInBounds_toArray, List.set_cons_zero, List.set_cons_succ]
        refine anyT_take (i := 1) (v := .string ⟨#[124, 61]⟩) (fun _ => True) rfl (by kernel_rfl) (by kernel_rfl) (by kernel_rfl) (fun _ _ _ h => h) (fun _ _ _ _ hS => hS) (fun _ _ => Iff.rfl) ac0 (Or.inl ⟨by kernel_rfl, ?ay10x1⟩) trivial (fun ac1 aS1 => ?ar10x1)
        case ay10x1 => (intro W' hSw; go_simp; try (first | rfl | decide | decide +kernel))
        try simp only [Act.put, List.setIfInBounds_toArray, List.set_cons_zero, List.set_cons_succ]
        refine anyT_take (i := 2) (v := .int .i64 2) (fun _ => True) rfl (by kernel_rfl) (by kernel_rfl) (by kernel_rfl) (fun _ _ _ h => h) (fun _ _ _ _ hS => hS) (fun _ _ => Iff.rfl) ac1 (Or.inl ⟨by kernel_rfl, ?ay10x2⟩) trivial (fun ac2 aS2 => ?ar10x2)
        case ay10x2 => (intro W' hSw; go_simp; try (first | rfl | decide | decide +kernel))
        try simp only [Act.put, List.setIfInBounds_toArray, List.set_cons_zero, List.set_cons_succ]
        refine anyT_take (i := 3) (v := .int .i64 1) (fun _ => True) rfl (by kernel_rfl) (by kernel_rfl) (by kernel_rfl) (fun _ _ _ h => h) (fun _ _ _ _ hS => hS) (fun _ _ => Iff.rfl) ac2 (Or.inl ⟨by kernel_rfl, ?ay10x3⟩) trivial (fun ac3 aS3 => ?ar10x3)
        case ay10x3 => (intro W' hSw; go_simp; try (first | rfl | decide | decide +kernel))
        try simp only [Act.put, List.setIfInBounds_toArray, List.set_cons_zero, List.set_cons_succ]
        refine anyT_take (i := 4) (v := .string ⟨#[124]⟩) (fun _ => True) rfl (by kernel_rfl) (by kernel_rfl) (by kernel_rfl) (fun _ _ _ h => h) (fun _ _ _ _ hS => hS) (fun _ _ => Iff.rfl) ac3 (Or.inl ⟨by kernel_rfl, ?ay10x4⟩) trivial (fun ac4 aS4 => ?ar10x4)
        case ay10x4 => (intro W' hSw; go_simp; try (first | rfl | decide | decide +kernel))
        try simp only [Act.put, List.setIfInBounds_toArray, List.set_cons_zero, List.set_cons_succ]
        refine anyT_take (i := 5) (v := .pointer (some ⟨p, 0, none⟩)) (fun _ => True) rfl (by kernel_rfl) (by kernel_rfl) (by kernel_rfl) (fun _ _ _ h => h) (fun _ _ _ _ hS => hS) (fun _ _ => Iff.rfl) ac4 (Or.inl ⟨by kernel_rfl, ?ay10x5⟩) trivial (fun ac5 aS5 => ?ar10x5)
        case ay10x5 => (intro W' hSw; go_simp; try (first | rfl | decide | decide +kernel))
        try simp only [Act.put, List.setIfInBounds_toArray, List.set_cons_zero, List.set_cons_succ]
        refine anyT_take (i := 6) (v := .string z) (fun _ => True) rfl (by kernel_rfl) (by kernel_rfl) (by kernel_rfl) (fun _ _ _ h => h) (fun _ _ _ _ hS => hS) (fun _ _ => Iff.rfl) ac5 (Or.inl ⟨by kernel_rfl, ?ay10x6⟩) trivial (fun ac6 aS6 => ?ar10x6)
        case ay10x6 => (intro W' hSw; go_simp; try (first | rfl | decide | decide +kernel))
        try simp only [Act.put, List.setIfInBounds_toArray, List.set_cons_zero, List.set_cons_succ]
        refine anyT_take (i := 7) (v := .bool c) (fun _ => True) rfl (by kernel_rfl) (by kernel_rfl) (by kernel_rfl) (fun _ _ _ h => h) (fun _ _ _ _ hS => hS) (fun _ _ => Iff.rfl) ac6 (Or.inl ⟨by kernel_rfl, ?ay10x7⟩) trivial (fun ac7 aS7 => ?ar10x7)
        case ay10x7 => (intro W' hSw; go_simp; try (first | rfl | decide | decide +kernel))
        try simp only [Act.put, List.setIfInBounds_toArray, List.set_cons_zero, List.set_cons_succ]
        refine anyT_take (i := 9) (v := .int .i64 v) (fun _ => True) rfl (by kernel_rfl) (by kernel_rfl) (by kernel_rfl) (fun _ _ _ h => h) (fun _ _ _ _ hS => hS) (fun _ _ => Iff.rfl) ac7 (Or.inl ⟨by kernel_rfl, ?ay10x9⟩) trivial (fun ac9 aS9 => ?ar10x9)
        case ay10x9 => (intro W' hSw; go_simp; try (first | rfl | decide | decide +kernel))
        try simp only [Act.put, List.setIfInBounds_toArray, List.set_cons_zero, List.set_cons_succ]
        refine anyT_take (i := 10) (v := .bool c) (fun _ => True) rfl (by kernel_rfl) (by kernel_rfl) (by kernel_rfl) (fun _ _ _ h => h) (fun _ _ _ _ hS => hS) (fun _ _ => Iff.rfl) ac9 (Or.inl ⟨by kernel_rfl, ?ay10x10⟩) trivial (fun ac10 aS10 => ?ar10x10)
        case ay10x10 => (intro W' hSw; go_simp; try (first | rfl | decide | decide +kernel))
        try simp only [Act.put, List.setIfInBounds_toArray, List.set_cons_zero, List.set_cons_succ]
        refine anyT_step (k := 8) (by kernel_rfl) rfl (fun K hK => ?as10x8)
        case as10x8 =>
          have HK := Lib.hid hK
          clear hK
          go_simp
          refine HNM.out.mono ?_
          rintro e w9 ⟨rfl, hR9, hF9⟩
          have HRK9 := Lib.hid (HRK.out w9 hR9)
          have HF9 := Lib.hid (((Fr.refl (· = p) w8).drew).trans hF9)
          clear hR9 hF9
          refine HK.out _ _ trivial ?_
          clear HK
          try simp only [Act.put, List.setIfInBounds_toArray, List.set_cons_zero, List.set_cons_succ]
          refine anyT_step (k := 11) (by kernel_rfl) rfl (fun K hK => ?as10x11)
          case as10x11 =>
            have HK := Lib.hid hK
            clear hK
            go_simp
            refine HRK9.out.mono ?_
            rintro e w10 ⟨rfl, hR10, hF10⟩
            have HR10 := Lib.hid hR10
            have HF10 := Lib.hid (HF9.out.trans hF10)
            clear hR10 hF10
            refine HK.out _ _ trivial ?_
            clear HK
            try simp only [Act.put, List.setIfInBounds_toArray, List.set_cons_zero, List.set_cons_succ]
            refine anyT_step (k := 12) (by kernel_rfl) rfl (fun K hK => ?as10x12)
            case as10x12 =>
              have HK := Lib.hid hK
              clear hK
              go_simp
              refine HK.out _ _ trivial ?_
              clear HK
              try simp only [Act.put, List.setIfInBounds_toArray, List.set_cons_zero, List.set_cons_succ]
              refine anyT_done (by kernel_rfl) ?_
              refine NoPanic.normal ?_
              obtain ⟨c0, c1, c2, c3, c4, c5, c6, fz⟩ := HR10.out.cells
              have f2 := fz 2
              have HI10 := Lib.hid (HI8.out.step HF10.out HR10.out hk8s (Nat.le_refl _))
              generalize he10 : bumpE (bumpE err8 c ex) c e2 = e10 at *
              have HE10 := Lib.hid he10
              have HFa := Lib.hid (HF8.out.trans HF10.out.up)
              have HEV := Lib.hid (fun n (h : evC g n (o, err) c = (v, (o8, err8))) => (show evC g (.asg wd [124] n) (o, err) c = (v2, if c = true ∧ e10 = 0 then (setV o8 wd v2, 0) else (o8, e10)) from by
                rw [evC, h]
                dsimp only
                rw [if_neg (by decide), HGV.out, HOP.out, bump_E, bump_E, HE10.out]
                rfl))
              clear c0 c1 c3 c4 c5 fz he10 HF10 HR10 HGV HOP HRK HNM HE10
              cases c with
              | false =>
                have HNO : Hid (¬ (false = true ∧ e10 = 0)) := Lib.hid (fun h => by cases h.1)
                go_wp2
                go_ret
                exact sets_end hd HN.out (by decide) HTK.out HP.out HR.out (HFa.out.trans (Fr.one _ _ _ _).up) HOI.out (HI10.out.step (Fr.one _ _ _ _) (HI10.out.1.setDeepI _ d9 (by omega)) hk8s (Nat.le_refl _)) (by omega) (by have := HO8.out; omega) (fun n h => by rw [show ([124, 61] : Bs).dropLast = [124] from rfl, HEV.out n h, if_neg HNO.out])
              | true =>
                by_cases he : e10 = 0
                · subst he
                  have HST := Lib.hid (rstore_any w10 p s k8 (d9 + 1) gv sv8 o8 form8 0 wd v2 HOI.out (by have := HI8.out.2.2.2.2.2.2.2; omega) HI10.out.2.2.2.1 HI10.out.1)
                  rw [HZ.out] at HST
                  clear c2 f2
                  go_upto_region 17 with (first
                    | (go_at_call 18; (with_reducible refine HST.out.mono ?_); rintro e w11 ⟨rfl, sv11, hR11, hS11, hF11⟩))
                  obtain ⟨c0, c1, c2, c3, c4, c5, c6, fz⟩ := hR11.cells
                  have f2 := fz 2
                  have HI11 := Lib.hid (HI10.out.stored HOI.out (by have := HO8.out; have := H00.out; omega) hR11 hS11 hF11)
                  have HFb := Lib.hid (HFa.out.trans hF11)
                  clear c0 c1 c3 c4 c5 c6 fz hR11 hS11 hF11
                  go_wp2
                  go_ret
                  exact sets_end hd HN.out (by decide) HTK.out HP.out HR.out (HFb.out.trans (Fr.one _ _ _ _).up) HOI.out (HI11.out.step (Fr.one _ _ _ _) (HI11.out.1.setDeepI _ d9 (by omega)) hk8s (Nat.le_refl _)) (by omega) (by have := HO8.out; have := setV_len o8 wd v2; omega) (fun n h => by rw [show ([124, 61] : Bs).dropLast = [124] from rfl, HEV.out n h, if_pos (by simp)])
                · have HNO : Hid (¬ (true = true ∧ e10 = 0)) := Lib.hid (fun h => he h.2)
                  have g15 : (e10 == 0) = false := by simpa using he
                  clear he
                  go_wp2
                  go_ret
                  exact sets_end hd HN.out (by decide) HTK.out HP.out HR.out (HFa.out.trans (Fr.one _ _ _ _).up) HOI.out (HI10.out.step (Fr.one _ _ _ _) (HI10.out.1.setDeepI _ d9 (by omega)) hk8s (Nat.le_refl _)) (by omega) (by have := HO8.out; omega) (fun n h => by rw [show ([124, 61] : Bs).dropLast = [124] from rfl, HEV.out n h, if_neg HNO.out])
end Go.Proofs.YtbmnngliapmgfaaGreatDoor
