/- Compounds. -/
import Derived.Test.YtoahgblgchmclaaPX
namespace Go.Proofs.Ytoahgblgchmclaa
open Go.RowKit
set_option linter.unusedVariables false
set_option linter.unusedSimpArgs false
section
variable {W w w' : World} {n p g cap : Nat} {K Kt : Nat → Prop} {all : List Tk} {nv nvt : Value} {s t : S}
theorem enter_open {n : Nat} {s : S} (hi : Inv n s) (hk : ¬ cKind s.enter.hd.text = 0) : s.opn ≤ 24 := by
  refine Nat.le_of_not_lt fun h24 => hk ?_
  have i1 := (fail_st s n hi).1
  have hl := i1.one (fail_err s)
  have e : s.enter.hd.text = s.fail.hd.text := by unfold S.enter; rw [if_pos h24]; rfl
  rw [e]
  rcases i1.next with ⟨_, h1, _⟩ | ⟨_, u, r, h1, _⟩
  · rw [h1]; decide
  · rw [h1] at hl; simp at hl

set_option maxHeartbeats 8000000 in
theorem compound_two8 {L : S → Int × S} {o : Nat} {bd : Int} (hL : Lst L) (HL : LCon L n p g cap all o bd) (h : PM W n K p g cap all nv s) (ho : o ≤ s.opn + 1) (ho2 : s.opn ≤ 900) (hp : pot s + 80 ≤ bd ∧ bd ≤ 60000) (hk : cKind s.enter.hd.text = 8) :
    Calls Try.prog 61 #[.pointer (some ⟨p, 0, none⟩)] W (NodePost W n K p g cap all nv (compound L s)) := by
  have HEN := Lib.hid (enter_any h (by omega))
  have HNX := Lib.hid (fun (w : World) (h : PM w n K p g cap all nv s.enter) => next_any h)
  have HCK := Lib.hid (fun (w : World) => cKind_any s.enter.hd.text w)
  have st1 := enter_st s n h.x.inv
  have sti := inner_st hL s.enter n st1.1
  obtain ⟨R, hR⟩ : ∃ R, compound L s = R := ⟨_, rfl⟩
  rw [hR]
  unfold compound at hR
  rw [hk] at HCK hR sti
  have hop := enter_open h.x.inv (by rw [hk]; decide)
  have hop1 : s.enter.opn = s.opn + 1 := rfl
  dsimp only at hR
  obtain ⟨r, hr⟩ : ∃ r, inner L s.enter 8 = r := ⟨_, rfl⟩
  rw [hr] at hR sti
  have hro : r.2.opn = s.opn + 1 := by have := sti.2.2.1; have := st1.2.2.1; omega
  have hrp : pot r.2 ≤ pot s := by have := sti.2.2.2; have := st1.2.2.2; omega
  have HLV := Lib.hid (fun (w : World) (K : Nat → Prop) (nv : Value) (h : PM w n K p g cap all nv r.2) => leave_any h ⟨by omega, by omega⟩)
  have st3 := (leave_st (s := r.2) (by omega)) n sti.1
  have HRD := Lib.hid (fun (w : World) (K : Nat → Prop) (nv : Value) (h : PM w n K p g cap all nv r.2.leave) => redirs_any h)
  have st4 := redirs_st r.2.leave n st3.1
  obtain ⟨d, hd⟩ : ∃ d, r.2.leave.redirs = d := ⟨_, rfl⟩
  rw [hd] at hR HRD st4
  have hdp : pot d.2 + 1 ≤ 100000 := by have := st3.2.2.2; have := st4.2.2.2; omega
  have HDP := Lib.hid hdp
  have HV := Lib.hid hR
  have hpe : pot s.enter ≤ pot s := by have := st1.2.2.2; omega
  obtain ⟨t1, ht1⟩ : ∃ t1, s.enter = t1 := ⟨_, rfl⟩
  rw [ht1] at HEN HNX HCK hr hpe st1 hop1 hk
  have HLS := Lib.hid (fun (w : World) (K : Nat → Prop) (nv : Value) (h : PM w n K p g cap all nv t1) => lists2_any hL HL h ⟨#[123]⟩ ⟨#[125]⟩ [123] [125] rfl rfl (by decide) (by decide) (by omega) (by omega) (by omega))
  simp only [inner, Int.reduceEq, ↓reduceIte] at hr
  obtain ⟨q, hq⟩ : ∃ q, listsG L [[125]] [] (t1.need [123]) = q := ⟨_, rfl⟩
  rw [hq] at HLS hr
  have hr1 : r.1 = ⟨8, [], false, [], [], [], [], q.1⟩ := by rw [← hr]; rfl
  have hr2 : r.2 = q.2 := by rw [← hr]
  have HR1 := Lib.hid hr1
  rw [hr2] at HLV
  have HR2 := Lib.hid hr2
  clear hr hr1 hr2 hq hR hd st1 sti st3 st4 h hL HL ho ho2 hp hop hop1 hro hrp hdp hpe ht1 hk
  go_enter Try.func61, Try.ntmps61
  go_upto_region 22 with (first | (refine wpList_field rfl _ _ rfl _ _ _ rfl _ rfl ?_) | (go_at_call 65; (with_reducible refine HEN.out.mono ?_); rintro e w1 ⟨rfl, hP, hF⟩; have H1 := Lib.hid hP; have G1 := Lib.hid (Go.of (nv := nv) (K := K) hF); clear hP hF HEN) | (go_at_call 25; (with_reducible refine (HNX.out _ H1.out).mono ?_); rintro e w2 ⟨rfl, hF⟩; have H2 := Lib.hid (H1.out.fr hF); have G2 := Lib.hid (G1.out.call0 hF); clear hF) | (go_at_call 38; (with_reducible refine (HCK.out _).mono ?_); rintro e w3 ⟨rfl, rfl⟩; have HC := Lib.hid (CN.start0 H2.out G2.out 8); obtain ⟨x0, x1, x2, x3, x4, x5, x6, x7⟩ := HC.out.cells; have z7 := HC.out.fz 7; have z4 := HC.out.fz 4; have z1 := HC.out.fz 1; have z2 := HC.out.fz 2; have z6 := HC.out.fz 6; have z5 := HC.out.fz 5) | (go_at_call 66; (with_reducible refine (HLS.out _ _ _ HC.out.pm _ (by simp)).mono ?_); rintro e w5 ⟨v5, nv5, K5, rfl, hk5⟩; clear x0 x1 x2 x3 x4 x5 x6 x7 z7 z4 z1 z2 z6 z5; obtain ⟨ao5, cp5, rfl, -, -, -⟩ := ownz_form hk5.row.1; have HC5 := Lib.hid (HC.out.node hk5.pm hk5.go); have HC6 := Lib.hid (HC.out.kidsOf hk5); obtain ⟨x0, x1, x2, x3, x4, x5, x6, x7⟩ := HC5.out.cells; have z7 := HC5.out.fz 7; have z4 := HC5.out.fz 4; have z1 := HC5.out.fz 1; have z2 := HC5.out.fz 2; have z6 := HC5.out.fz 6; have z5 := HC5.out.fz 5; clear hk5 HC))
  clear x0 x1 x2 x3 x4 x5 x6 x7 z7 z4 z1 z2 z6 z5
  generalize w5.setCell ⟨w3.heap.size, 7, none⟩ (.slice ao5 q.1.length cp5) = w6 at *
  have HX := Lib.hid (HC6.out.call0 (Fr.refl _ _))
  clear HC6 HC5
  have HRE := Lib.hid (fun (w : World) (K : Nat → Prop) (nv : Value) (h : PM w n K p g cap all nv r.2.leave) => HRD.out w K nv h)
  rw [HR2.out] at HRE
  clear HRD
  go_upto_region 24 with (first | (go_at_call 72; (with_reducible refine (HLV.out _ _ _ HX.out.pm).mono ?_); rintro e wa ⟨rfl, hP, hF⟩; have HXa := Lib.hid (HX.out.call hP hF); clear hP hF HX) | (go_at_call 73; (with_reducible refine (HRE.out _ _ _ HXa.out.pm).mono ?_); rintro e wb ⟨vb, rfl, hrb, hfb, hPb, hFb⟩; obtain ⟨aob, cpb, rfl, -, -, -⟩ := ownz_form hrb.1; have HYb := Lib.hid (⟨hrb, fun k e => Nat.le_trans HXa.out.go.fr.size (hfb k e), fun k e hk => by have h1 := hfb k e; have h2 := HXa.out.pm.x.kb k hk; omega⟩ : _ ∧ (∀ k, own1 (.slice aob d.1.length cpb) k → W.heap.size ≤ k) ∧ ∀ k, own1 (.slice aob d.1.length cpb) k → ¬ _); have HXb := Lib.hid (HXa.out.call hPb hFb); obtain ⟨x0, x1, x2, x3, x4, x5, x6, x7⟩ := HXb.out.cells; have z5 := HXb.out.fz 5; clear hrb hfb hPb hFb HXa))
  clear x0 x1 x2 x3 x4 x5 x6 x7 z5
  have HXc := Lib.hid (HXb.out.setReds HYb.out.1 HYb.out.2.1 HYb.out.2.2 (fun k e => (ownz_type HYb.out.1.1 e).2.1))
  generalize wb.setCell ⟨w3.heap.size, 5, none⟩ (.slice aob d.1.length cpb) = wc at *
  clear HXb HYb
  obtain ⟨x0, x1, x2, x3, x4, x5, x6, x7⟩ := HXc.out.cells
  go_wp2_with (first | (go_at_call 42; (with_reducible refine (HXc.out.done HDP.out).mono ?_); rintro e wd ⟨rfl, hq⟩; have HQ := Lib.hid hq; clear hq))
  go_ret
  rw [← HV.out, HR1.out]
  exact ⟨rfl, HQ.out⟩
set_option maxHeartbeats 8000000 in
theorem compound_two9 {L : S → Int × S} {o : Nat} {bd : Int} (hL : Lst L) (HL : LCon L n p g cap all o bd) (h : PM W n K p g cap all nv s) (ho : o ≤ s.opn + 1) (ho2 : s.opn ≤ 900) (hp : pot s + 80 ≤ bd ∧ bd ≤ 60000) (hk : cKind s.enter.hd.text = 9) :
    Calls Try.prog 61 #[.pointer (some ⟨p, 0, none⟩)] W (NodePost W n K p g cap all nv (compound L s)) := by
  have HEN := Lib.hid (enter_any h (by omega))
  have HNX := Lib.hid (fun (w : World) (h : PM w n K p g cap all nv s.enter) => next_any h)
  have HCK := Lib.hid (fun (w : World) => cKind_any s.enter.hd.text w)
  have st1 := enter_st s n h.x.inv
  have sti := inner_st hL s.enter n st1.1
  obtain ⟨R, hR⟩ : ∃ R, compound L s = R := ⟨_, rfl⟩
  rw [hR]
  unfold compound at hR
  rw [hk] at HCK hR sti
  have hop := enter_open h.x.inv (by rw [hk]; decide)
  have hop1 : s.enter.opn = s.opn + 1 := rfl
  dsimp only at hR
  obtain ⟨r, hr⟩ : ∃ r, inner L s.enter 9 = r := ⟨_, rfl⟩
  rw [hr] at hR sti
  have hro : r.2.opn = s.opn + 1 := by have := sti.2.2.1; have := st1.2.2.1; omega
  have hrp : pot r.2 ≤ pot s := by have := sti.2.2.2; have := st1.2.2.2; omega
  have HLV := Lib.hid (fun (w : World) (K : Nat → Prop) (nv : Value) (h : PM w n K p g cap all nv r.2) => leave_any h ⟨by omega, by omega⟩)
  have st3 := (leave_st (s := r.2) (by omega)) n sti.1
  have HRD := Lib.hid (fun (w : World) (K : Nat → Prop) (nv : Value) (h : PM w n K p g cap all nv r.2.leave) => redirs_any h)
  have st4 := redirs_st r.2.leave n st3.1
  obtain ⟨d, hd⟩ : ∃ d, r.2.leave.redirs = d := ⟨_, rfl⟩
  rw [hd] at hR HRD st4
  have hdp : pot d.2 + 1 ≤ 100000 := by have := st3.2.2.2; have := st4.2.2.2; omega
  have HDP := Lib.hid hdp
  have HV := Lib.hid hR
  have hpe : pot s.enter ≤ pot s := by have := st1.2.2.2; omega
  obtain ⟨t1, ht1⟩ : ∃ t1, s.enter = t1 := ⟨_, rfl⟩
  rw [ht1] at HEN HNX HCK hr hpe st1 hop1 hk
  have HLS := Lib.hid (fun (w : World) (K : Nat → Prop) (nv : Value) (h : PM w n K p g cap all nv t1) => lists2_any hL HL h ⟨#[40]⟩ ⟨#[41]⟩ [40] [41] rfl rfl (by decide) (by decide) (by omega) (by omega) (by omega))
  simp only [inner, Int.reduceEq, ↓reduceIte] at hr
  obtain ⟨q, hq⟩ : ∃ q, listsG L [[41]] [] (t1.need [40]) = q := ⟨_, rfl⟩
  rw [hq] at HLS hr
  have hr1 : r.1 = ⟨9, [], false, [], [], [], [], q.1⟩ := by rw [← hr]; rfl
  have hr2 : r.2 = q.2 := by rw [← hr]
  have HR1 := Lib.hid hr1
  rw [hr2] at HLV
  have HR2 := Lib.hid hr2
  clear hr hr1 hr2 hq hR hd st1 sti st3 st4 h hL HL ho ho2 hp hop hop1 hro hrp hdp hpe ht1 hk
  go_enter Try.func61, Try.ntmps61
  go_upto_region 22 with (first | (refine wpList_field rfl _ _ rfl _ _ _ rfl _ rfl ?_) | (go_at_call 65; (with_reducible refine HEN.out.mono ?_); rintro e w1 ⟨rfl, hP, hF⟩; have H1 := Lib.hid hP; have G1 := Lib.hid (Go.of (nv := nv) (K := K) hF); clear hP hF HEN) | (go_at_call 25; (with_reducible refine (HNX.out _ H1.out).mono ?_); rintro e w2 ⟨rfl, hF⟩; have H2 := Lib.hid (H1.out.fr hF); have G2 := Lib.hid (G1.out.call0 hF); clear hF) | (go_at_call 38; (with_reducible refine (HCK.out _).mono ?_); rintro e w3 ⟨rfl, rfl⟩; have HC := Lib.hid (CN.start0 H2.out G2.out 9); obtain ⟨x0, x1, x2, x3, x4, x5, x6, x7⟩ := HC.out.cells; have z7 := HC.out.fz 7; have z4 := HC.out.fz 4; have z1 := HC.out.fz 1; have z2 := HC.out.fz 2; have z6 := HC.out.fz 6; have z5 := HC.out.fz 5) | (go_at_call 66; (with_reducible refine (HLS.out _ _ _ HC.out.pm _ (by simp)).mono ?_); rintro e w5 ⟨v5, nv5, K5, rfl, hk5⟩; clear x0 x1 x2 x3 x4 x5 x6 x7 z7 z4 z1 z2 z6 z5; obtain ⟨ao5, cp5, rfl, -, -, -⟩ := ownz_form hk5.row.1; have HC5 := Lib.hid (HC.out.node hk5.pm hk5.go); have HC6 := Lib.hid (HC.out.kidsOf hk5); obtain ⟨x0, x1, x2, x3, x4, x5, x6, x7⟩ := HC5.out.cells; have z7 := HC5.out.fz 7; have z4 := HC5.out.fz 4; have z1 := HC5.out.fz 1; have z2 := HC5.out.fz 2; have z6 := HC5.out.fz 6; have z5 := HC5.out.fz 5; clear hk5 HC))
  clear x0 x1 x2 x3 x4 x5 x6 x7 z7 z4 z1 z2 z6 z5
  generalize w5.setCell ⟨w3.heap.size, 7, none⟩ (.slice ao5 q.1.length cp5) = w6 at *
  have HX := Lib.hid (HC6.out.call0 (Fr.refl _ _))
  clear HC6 HC5
  have HRE := Lib.hid (fun (w : World) (K : Nat → Prop) (nv : Value) (h : PM w n K p g cap all nv r.2.leave) => HRD.out w K nv h)
  rw [HR2.out] at HRE
  clear HRD
  go_upto_region 24 with (first | (go_at_call 72; (with_reducible refine (HLV.out _ _ _ HX.out.pm).mono ?_); rintro e wa ⟨rfl, hP, hF⟩; have HXa := Lib.hid (HX.out.call hP hF); clear hP hF HX) | (go_at_call 73; (with_reducible refine (HRE.out _ _ _ HXa.out.pm).mono ?_); rintro e wb ⟨vb, rfl, hrb, hfb, hPb, hFb⟩; obtain ⟨aob, cpb, rfl, -, -, -⟩ := ownz_form hrb.1; have HYb := Lib.hid (⟨hrb, fun k e => Nat.le_trans HXa.out.go.fr.size (hfb k e), fun k e hk => by have h1 := hfb k e; have h2 := HXa.out.pm.x.kb k hk; omega⟩ : _ ∧ (∀ k, own1 (.slice aob d.1.length cpb) k → W.heap.size ≤ k) ∧ ∀ k, own1 (.slice aob d.1.length cpb) k → ¬ _); have HXb := Lib.hid (HXa.out.call hPb hFb); obtain ⟨x0, x1, x2, x3, x4, x5, x6, x7⟩ := HXb.out.cells; have z5 := HXb.out.fz 5; clear hrb hfb hPb hFb HXa))
  clear x0 x1 x2 x3 x4 x5 x6 x7 z5
  have HXc := Lib.hid (HXb.out.setReds HYb.out.1 HYb.out.2.1 HYb.out.2.2 (fun k e => (ownz_type HYb.out.1.1 e).2.1))
  generalize wb.setCell ⟨w3.heap.size, 5, none⟩ (.slice aob d.1.length cpb) = wc at *
  clear HXb HYb
  obtain ⟨x0, x1, x2, x3, x4, x5, x6, x7⟩ := HXc.out.cells
  go_wp2_with (first | (go_at_call 42; (with_reducible refine (HXc.out.done HDP.out).mono ?_); rintro e wd ⟨rfl, hq⟩; have HQ := Lib.hid hq; clear hq))
  go_ret
  rw [← HV.out, HR1.out]
  exact ⟨rfl, HQ.out⟩
set_option maxHeartbeats 8000000 in
theorem compound_if10 {L : S → Int × S} {o : Nat} {bd : Int} (hL : Lst L) (HL : LCon L n p g cap all o bd) (h : PM W n K p g cap all nv s) (ho : o ≤ s.opn + 1) (ho2 : s.opn ≤ 900) (hp : pot s + 80 ≤ bd ∧ bd ≤ 60000) (hk : cKind s.enter.hd.text = 10) :
    Calls Try.prog 61 #[.pointer (some ⟨p, 0, none⟩)] W (NodePost W n K p g cap all nv (compound L s)) := by
  have HEN := Lib.hid (enter_any h (by omega))
  have HNX := Lib.hid (fun (w : World) (h : PM w n K p g cap all nv s.enter) => next_any h)
  have HCK := Lib.hid (fun (w : World) => cKind_any s.enter.hd.text w)
  have st1 := enter_st s n h.x.inv
  have sti := inner_st hL s.enter n st1.1
  obtain ⟨R, hR⟩ : ∃ R, compound L s = R := ⟨_, rfl⟩
  rw [hR]
  unfold compound at hR
  rw [hk] at HCK hR sti
  have hop := enter_open h.x.inv (by rw [hk]; decide)
  have hop1 : s.enter.opn = s.opn + 1 := rfl
  dsimp only at hR
  obtain ⟨r, hr⟩ : ∃ r, inner L s.enter 10 = r := ⟨_, rfl⟩
  rw [hr] at hR sti
  have hro : r.2.opn = s.opn + 1 := by have := sti.2.2.1; have := st1.2.2.1; omega
  have hrp : pot r.2 ≤ pot s := by have := sti.2.2.2; have := st1.2.2.2; omega
  have HLV := Lib.hid (fun (w : World) (K : Nat → Prop) (nv : Value) (h : PM w n K p g cap all nv r.2) => leave_any h ⟨by omega, by omega⟩)
  have st3 := (leave_st (s := r.2) (by omega)) n sti.1
  have HRD := Lib.hid (fun (w : World) (K : Nat → Prop) (nv : Value) (h : PM w n K p g cap all nv r.2.leave) => redirs_any h)
  have st4 := redirs_st r.2.leave n st3.1
  obtain ⟨d, hd⟩ : ∃ d, r.2.leave.redirs = d := ⟨_, rfl⟩
  rw [hd] at hR HRD st4
  have hdp : pot d.2 + 1 ≤ 100000 := by have := st3.2.2.2; have := st4.2.2.2; omega
  have HDP := Lib.hid hdp
  have HV := Lib.hid hR
  have hpe : pot s.enter ≤ pot s := by have := st1.2.2.2; omega
  obtain ⟨t1, ht1⟩ : ∃ t1, s.enter = t1 := ⟨_, rfl⟩
  rw [ht1] at HEN HNX HCK hr hpe st1 hop1 hk
  have his : t1.is [105, 102] = true := by unfold S.is; unfold cKind at hk; revert hk; split; (intro h; cases h); split; (intro h; cases h); split; (rename_i e; intro _; rw [e]; rfl); split; (intro h; cases h); split; (intro h; cases h); split; (intro h; cases h); split; (intro h; cases h); (intro h; cases h)
  have HBR := Lib.hid (fun (w : World) (K : Nat → Prop) (nv : Value) (h : PM w n K p g cap all nv t1) => branches_any hL HL t1.ts.length h ⟨#[105, 102]⟩ [105, 102] rfl (by decide) his (Nat.le_refl _) (by omega) (by omega) (by omega))
  simp only [inner, Int.reduceEq, ↓reduceIte] at hr
  obtain ⟨q, hq⟩ : ∃ q, branG L t1.ts.length [105, 102] t1 = q := ⟨_, rfl⟩
  rw [hq] at HBR hr
  have hr1 : r.1 = ⟨10, [], false, [], [], [], [], q.1⟩ := by rw [← hr]; rfl
  have hr2 : r.2 = q.2.need [102, 105] := by rw [← hr]
  have HR1 := Lib.hid hr1
  rw [hr2] at HLV
  have HR2 := Lib.hid hr2
  have HEX := Lib.hid (fun (w : World) (K : Nat → Prop) (nv : Value) (h : PM w n K p g cap all nv q.2) => expect_any h ⟨#[102, 105]⟩ [102, 105] rfl (by decide))
  clear hr hr1 hr2 hq hR hd st1 sti st3 st4 h hL HL ho ho2 hp hop hop1 hro hrp hdp hpe ht1 hk his
  go_enter Try.func61, Try.ntmps61
  go_upto_region 11 with (first | (refine wpList_field rfl _ _ rfl _ _ _ rfl _ rfl ?_) | (go_at_call 65; (with_reducible refine HEN.out.mono ?_); rintro e w1 ⟨rfl, hP, hF⟩; have H1 := Lib.hid hP; have G1 := Lib.hid (Go.of (nv := nv) (K := K) hF); clear hP hF HEN) | (go_at_call 25; (with_reducible refine (HNX.out _ H1.out).mono ?_); rintro e w2 ⟨rfl, hF⟩; have H2 := Lib.hid (H1.out.fr hF); have G2 := Lib.hid (G1.out.call0 hF); clear hF) | (go_at_call 38; (with_reducible refine (HCK.out _).mono ?_); rintro e w3 ⟨rfl, rfl⟩; have HC := Lib.hid (CN.start0 H2.out G2.out 10); obtain ⟨x0, x1, x2, x3, x4, x5, x6, x7⟩ := HC.out.cells; have z7 := HC.out.fz 7; have z4 := HC.out.fz 4; have z1 := HC.out.fz 1; have z2 := HC.out.fz 2; have z6 := HC.out.fz 6; have z5 := HC.out.fz 5) | (go_at_call 67; (with_reducible refine (HBR.out _ _ _ HC.out.pm).mono ?_); rintro e w5 ⟨v5, nv5, K5, rfl, hk5⟩; clear x0 x1 x2 x3 x4 x5 x6 x7 z7 z4 z1 z2 z6 z5; obtain ⟨ao5, cp5, rfl, -, -, -⟩ := ownz_form hk5.row.1; have HC5 := Lib.hid (HC.out.node hk5.pm hk5.go); have HC6 := Lib.hid (HC.out.kidsOf hk5); obtain ⟨x0, x1, x2, x3, x4, x5, x6, x7⟩ := HC5.out.cells; have z7 := HC5.out.fz 7; have z4 := HC5.out.fz 4; have z1 := HC5.out.fz 1; have z2 := HC5.out.fz 2; have z6 := HC5.out.fz 6; have z5 := HC5.out.fz 5; clear hk5 HC))
  clear x0 x1 x2 x3 x4 x5 x6 x7 z7 z4 z1 z2 z6 z5
  generalize w5.setCell ⟨w3.heap.size, 7, none⟩ (.slice ao5 q.1.length cp5) = w6 at *
  go_upto_region 22 with (first | (go_at_call 68; (with_reducible refine (HEX.out _ _ _ HC6.out.pm).mono ?_); rintro e w7 ⟨rfl, hP, hF⟩; have HX := Lib.hid (HC6.out.call hP hF); clear hP hF))
  clear HC6 HC5
  have HRE := Lib.hid (fun (w : World) (K : Nat → Prop) (nv : Value) (h : PM w n K p g cap all nv r.2.leave) => HRD.out w K nv h)
  rw [HR2.out] at HRE
  clear HRD
  go_upto_region 24 with (first | (go_at_call 72; (with_reducible refine (HLV.out _ _ _ HX.out.pm).mono ?_); rintro e wa ⟨rfl, hP, hF⟩; have HXa := Lib.hid (HX.out.call hP hF); clear hP hF HX) | (go_at_call 73; (with_reducible refine (HRE.out _ _ _ HXa.out.pm).mono ?_); rintro e wb ⟨vb, rfl, hrb, hfb, hPb, hFb⟩; obtain ⟨aob, cpb, rfl, -, -, -⟩ := ownz_form hrb.1; have HYb := Lib.hid (⟨hrb, fun k e => Nat.le_trans HXa.out.go.fr.size (hfb k e), fun k e hk => by have h1 := hfb k e; have h2 := HXa.out.pm.x.kb k hk; omega⟩ : _ ∧ (∀ k, own1 (.slice aob d.1.length cpb) k → W.heap.size ≤ k) ∧ ∀ k, own1 (.slice aob d.1.length cpb) k → ¬ _); have HXb := Lib.hid (HXa.out.call hPb hFb); obtain ⟨x0, x1, x2, x3, x4, x5, x6, x7⟩ := HXb.out.cells; have z5 := HXb.out.fz 5; clear hrb hfb hPb hFb HXa))
  clear x0 x1 x2 x3 x4 x5 x6 x7 z5
  have HXc := Lib.hid (HXb.out.setReds HYb.out.1 HYb.out.2.1 HYb.out.2.2 (fun k e => (ownz_type HYb.out.1.1 e).2.1))
  generalize wb.setCell ⟨w3.heap.size, 5, none⟩ (.slice aob d.1.length cpb) = wc at *
  clear HXb HYb
  obtain ⟨x0, x1, x2, x3, x4, x5, x6, x7⟩ := HXc.out.cells
  go_wp2_with (first | (go_at_call 42; (with_reducible refine (HXc.out.done HDP.out).mono ?_); rintro e wd ⟨rfl, hq⟩; have HQ := Lib.hid hq; clear hq))
  go_ret
  rw [← HV.out, HR1.out]
  exact ⟨rfl, HQ.out⟩
set_option maxHeartbeats 8000000 in
theorem compound_three11 {L : S → Int × S} {o : Nat} {bd : Int} (hL : Lst L) (HL : LCon L n p g cap all o bd) (h : PM W n K p g cap all nv s) (ho : o ≤ s.opn + 1) (ho2 : s.opn ≤ 900) (hp : pot s + 80 ≤ bd ∧ bd ≤ 60000) (hk : cKind s.enter.hd.text = 11) :
    Calls Try.prog 61 #[.pointer (some ⟨p, 0, none⟩)] W (NodePost W n K p g cap all nv (compound L s)) := by
  have HEN := Lib.hid (enter_any h (by omega))
  have HNX := Lib.hid (fun (w : World) (h : PM w n K p g cap all nv s.enter) => next_any h)
  have HCK := Lib.hid (fun (w : World) => cKind_any s.enter.hd.text w)
  have st1 := enter_st s n h.x.inv
  have sti := inner_st hL s.enter n st1.1
  obtain ⟨R, hR⟩ : ∃ R, compound L s = R := ⟨_, rfl⟩
  rw [hR]
  unfold compound at hR
  rw [hk] at HCK hR sti
  have hop := enter_open h.x.inv (by rw [hk]; decide)
  have hop1 : s.enter.opn = s.opn + 1 := rfl
  dsimp only at hR
  obtain ⟨r, hr⟩ : ∃ r, inner L s.enter 11 = r := ⟨_, rfl⟩
  rw [hr] at hR sti
  have hro : r.2.opn = s.opn + 1 := by have := sti.2.2.1; have := st1.2.2.1; omega
  have hrp : pot r.2 ≤ pot s := by have := sti.2.2.2; have := st1.2.2.2; omega
  have HLV := Lib.hid (fun (w : World) (K : Nat → Prop) (nv : Value) (h : PM w n K p g cap all nv r.2) => leave_any h ⟨by omega, by omega⟩)
  have st3 := (leave_st (s := r.2) (by omega)) n sti.1
  have HRD := Lib.hid (fun (w : World) (K : Nat → Prop) (nv : Value) (h : PM w n K p g cap all nv r.2.leave) => redirs_any h)
  have st4 := redirs_st r.2.leave n st3.1
  obtain ⟨d, hd⟩ : ∃ d, r.2.leave.redirs = d := ⟨_, rfl⟩
  rw [hd] at hR HRD st4
  have hdp : pot d.2 + 1 ≤ 100000 := by have := st3.2.2.2; have := st4.2.2.2; omega
  have HDP := Lib.hid hdp
  have HV := Lib.hid hR
  have hpe : pot s.enter ≤ pot s := by have := st1.2.2.2; omega
  obtain ⟨t1, ht1⟩ : ∃ t1, s.enter = t1 := ⟨_, rfl⟩
  rw [ht1] at HEN HNX HCK hr hpe st1 hop1 hk
  have HLS := Lib.hid (fun (w : World) (K : Nat → Prop) (nv : Value) (h : PM w n K p g cap all nv t1) => lists3_any hL HL h ⟨#[119, 104, 105, 108, 101]⟩ ⟨#[100, 111]⟩ ⟨#[100, 111, 110, 101]⟩ [119, 104, 105, 108, 101] [100, 111] [100, 111, 110, 101] rfl rfl rfl (by decide) (by decide) (by decide) (by omega) (by omega) (by omega))
  simp only [inner, Int.reduceEq, ↓reduceIte] at hr
  obtain ⟨q, hq⟩ : ∃ q, listsG L [[100, 111], [100, 111, 110, 101]] [] (t1.need [119, 104, 105, 108, 101]) = q := ⟨_, rfl⟩
  rw [hq] at HLS hr
  have hr1 : r.1 = ⟨11, [], false, [], [], [], [], q.1⟩ := by rw [← hr]; rfl
  have hr2 : r.2 = q.2 := by rw [← hr]
  have HR1 := Lib.hid hr1
  rw [hr2] at HLV
  have HR2 := Lib.hid hr2
  clear hr hr1 hr2 hq hR hd st1 sti st3 st4 h hL HL ho ho2 hp hop hop1 hro hrp hdp hpe ht1 hk
  go_enter Try.func61, Try.ntmps61
  go_upto_region 22 with (first | (refine wpList_field rfl _ _ rfl _ _ _ rfl _ rfl ?_) | (go_at_call 65; (with_reducible refine HEN.out.mono ?_); rintro e w1 ⟨rfl, hP, hF⟩; have H1 := Lib.hid hP; have G1 := Lib.hid (Go.of (nv := nv) (K := K) hF); clear hP hF HEN) | (go_at_call 25; (with_reducible refine (HNX.out _ H1.out).mono ?_); rintro e w2 ⟨rfl, hF⟩; have H2 := Lib.hid (H1.out.fr hF); have G2 := Lib.hid (G1.out.call0 hF); clear hF) | (go_at_call 38; (with_reducible refine (HCK.out _).mono ?_); rintro e w3 ⟨rfl, rfl⟩; have HC := Lib.hid (CN.start0 H2.out G2.out 11); obtain ⟨x0, x1, x2, x3, x4, x5, x6, x7⟩ := HC.out.cells; have z7 := HC.out.fz 7; have z4 := HC.out.fz 4; have z1 := HC.out.fz 1; have z2 := HC.out.fz 2; have z6 := HC.out.fz 6; have z5 := HC.out.fz 5) | (go_at_call 66; (with_reducible refine (HLS.out _ _ _ HC.out.pm _ (by simp)).mono ?_); rintro e w5 ⟨v5, nv5, K5, rfl, hk5⟩; clear x0 x1 x2 x3 x4 x5 x6 x7 z7 z4 z1 z2 z6 z5; obtain ⟨ao5, cp5, rfl, -, -, -⟩ := ownz_form hk5.row.1; have HC5 := Lib.hid (HC.out.node hk5.pm hk5.go); have HC6 := Lib.hid (HC.out.kidsOf hk5); obtain ⟨x0, x1, x2, x3, x4, x5, x6, x7⟩ := HC5.out.cells; have z7 := HC5.out.fz 7; have z4 := HC5.out.fz 4; have z1 := HC5.out.fz 1; have z2 := HC5.out.fz 2; have z6 := HC5.out.fz 6; have z5 := HC5.out.fz 5; clear hk5 HC))
  clear x0 x1 x2 x3 x4 x5 x6 x7 z7 z4 z1 z2 z6 z5
  generalize w5.setCell ⟨w3.heap.size, 7, none⟩ (.slice ao5 q.1.length cp5) = w6 at *
  have HX := Lib.hid (HC6.out.call0 (Fr.refl _ _))
  clear HC6 HC5
  have HRE := Lib.hid (fun (w : World) (K : Nat → Prop) (nv : Value) (h : PM w n K p g cap all nv r.2.leave) => HRD.out w K nv h)
  rw [HR2.out] at HRE
  clear HRD
  go_upto_region 24 with (first | (go_at_call 72; (with_reducible refine (HLV.out _ _ _ HX.out.pm).mono ?_); rintro e wa ⟨rfl, hP, hF⟩; have HXa := Lib.hid (HX.out.call hP hF); clear hP hF HX) | (go_at_call 73; (with_reducible refine (HRE.out _ _ _ HXa.out.pm).mono ?_); rintro e wb ⟨vb, rfl, hrb, hfb, hPb, hFb⟩; obtain ⟨aob, cpb, rfl, -, -, -⟩ := ownz_form hrb.1; have HYb := Lib.hid (⟨hrb, fun k e => Nat.le_trans HXa.out.go.fr.size (hfb k e), fun k e hk => by have h1 := hfb k e; have h2 := HXa.out.pm.x.kb k hk; omega⟩ : _ ∧ (∀ k, own1 (.slice aob d.1.length cpb) k → W.heap.size ≤ k) ∧ ∀ k, own1 (.slice aob d.1.length cpb) k → ¬ _); have HXb := Lib.hid (HXa.out.call hPb hFb); obtain ⟨x0, x1, x2, x3, x4, x5, x6, x7⟩ := HXb.out.cells; have z5 := HXb.out.fz 5; clear hrb hfb hPb hFb HXa))
  clear x0 x1 x2 x3 x4 x5 x6 x7 z5
  have HXc := Lib.hid (HXb.out.setReds HYb.out.1 HYb.out.2.1 HYb.out.2.2 (fun k e => (ownz_type HYb.out.1.1 e).2.1))
  generalize wb.setCell ⟨w3.heap.size, 5, none⟩ (.slice aob d.1.length cpb) = wc at *
  clear HXb HYb
  obtain ⟨x0, x1, x2, x3, x4, x5, x6, x7⟩ := HXc.out.cells
  go_wp2_with (first | (go_at_call 42; (with_reducible refine (HXc.out.done HDP.out).mono ?_); rintro e wd ⟨rfl, hq⟩; have HQ := Lib.hid hq; clear hq))
  go_ret
  rw [← HV.out, HR1.out]
  exact ⟨rfl, HQ.out⟩
set_option maxHeartbeats 8000000 in
theorem compound_three12 {L : S → Int × S} {o : Nat} {bd : Int} (hL : Lst L) (HL : LCon L n p g cap all o bd) (h : PM W n K p g cap all nv s) (ho : o ≤ s.opn + 1) (ho2 : s.opn ≤ 900) (hp : pot s + 80 ≤ bd ∧ bd ≤ 60000) (hk : cKind s.enter.hd.text = 12) :
    Calls Try.prog 61 #[.pointer (some ⟨p, 0, none⟩)] W (NodePost W n K p g cap all nv (compound L s)) := by
  have HEN := Lib.hid (enter_any h (by omega))
  have HNX := Lib.hid (fun (w : World) (h : PM w n K p g cap all nv s.enter) => next_any h)
  have HCK := Lib.hid (fun (w : World) => cKind_any s.enter.hd.text w)
  have st1 := enter_st s n h.x.inv
  have sti := inner_st hL s.enter n st1.1
  obtain ⟨R, hR⟩ : ∃ R, compound L s = R := ⟨_, rfl⟩
  rw [hR]
  unfold compound at hR
  rw [hk] at HCK hR sti
  have hop := enter_open h.x.inv (by rw [hk]; decide)
  have hop1 : s.enter.opn = s.opn + 1 := rfl
  dsimp only at hR
  obtain ⟨r, hr⟩ : ∃ r, inner L s.enter 12 = r := ⟨_, rfl⟩
  rw [hr] at hR sti
  have hro : r.2.opn = s.opn + 1 := by have := sti.2.2.1; have := st1.2.2.1; omega
  have hrp : pot r.2 ≤ pot s := by have := sti.2.2.2; have := st1.2.2.2; omega
  have HLV := Lib.hid (fun (w : World) (K : Nat → Prop) (nv : Value) (h : PM w n K p g cap all nv r.2) => leave_any h ⟨by omega, by omega⟩)
  have st3 := (leave_st (s := r.2) (by omega)) n sti.1
  have HRD := Lib.hid (fun (w : World) (K : Nat → Prop) (nv : Value) (h : PM w n K p g cap all nv r.2.leave) => redirs_any h)
  have st4 := redirs_st r.2.leave n st3.1
  obtain ⟨d, hd⟩ : ∃ d, r.2.leave.redirs = d := ⟨_, rfl⟩
  rw [hd] at hR HRD st4
  have hdp : pot d.2 + 1 ≤ 100000 := by have := st3.2.2.2; have := st4.2.2.2; omega
  have HDP := Lib.hid hdp
  have HV := Lib.hid hR
  have hpe : pot s.enter ≤ pot s := by have := st1.2.2.2; omega
  obtain ⟨t1, ht1⟩ : ∃ t1, s.enter = t1 := ⟨_, rfl⟩
  rw [ht1] at HEN HNX HCK hr hpe st1 hop1 hk
  have HLS := Lib.hid (fun (w : World) (K : Nat → Prop) (nv : Value) (h : PM w n K p g cap all nv t1) => lists3_any hL HL h ⟨#[117, 110, 116, 105, 108]⟩ ⟨#[100, 111]⟩ ⟨#[100, 111, 110, 101]⟩ [117, 110, 116, 105, 108] [100, 111] [100, 111, 110, 101] rfl rfl rfl (by decide) (by decide) (by decide) (by omega) (by omega) (by omega))
  simp only [inner, Int.reduceEq, ↓reduceIte] at hr
  obtain ⟨q, hq⟩ : ∃ q, listsG L [[100, 111], [100, 111, 110, 101]] [] (t1.need [117, 110, 116, 105, 108]) = q := ⟨_, rfl⟩
  rw [hq] at HLS hr
  have hr1 : r.1 = ⟨12, [], false, [], [], [], [], q.1⟩ := by rw [← hr]; rfl
  have hr2 : r.2 = q.2 := by rw [← hr]
  have HR1 := Lib.hid hr1
  rw [hr2] at HLV
  have HR2 := Lib.hid hr2
  clear hr hr1 hr2 hq hR hd st1 sti st3 st4 h hL HL ho ho2 hp hop hop1 hro hrp hdp hpe ht1 hk
  go_enter Try.func61, Try.ntmps61
  go_upto_region 22 with (first | (refine wpList_field rfl _ _ rfl _ _ _ rfl _ rfl ?_) | (go_at_call 65; (with_reducible refine HEN.out.mono ?_); rintro e w1 ⟨rfl, hP, hF⟩; have H1 := Lib.hid hP; have G1 := Lib.hid (Go.of (nv := nv) (K := K) hF); clear hP hF HEN) | (go_at_call 25; (with_reducible refine (HNX.out _ H1.out).mono ?_); rintro e w2 ⟨rfl, hF⟩; have H2 := Lib.hid (H1.out.fr hF); have G2 := Lib.hid (G1.out.call0 hF); clear hF) | (go_at_call 38; (with_reducible refine (HCK.out _).mono ?_); rintro e w3 ⟨rfl, rfl⟩; have HC := Lib.hid (CN.start0 H2.out G2.out 12); obtain ⟨x0, x1, x2, x3, x4, x5, x6, x7⟩ := HC.out.cells; have z7 := HC.out.fz 7; have z4 := HC.out.fz 4; have z1 := HC.out.fz 1; have z2 := HC.out.fz 2; have z6 := HC.out.fz 6; have z5 := HC.out.fz 5) | (go_at_call 66; (with_reducible refine (HLS.out _ _ _ HC.out.pm _ (by simp)).mono ?_); rintro e w5 ⟨v5, nv5, K5, rfl, hk5⟩; clear x0 x1 x2 x3 x4 x5 x6 x7 z7 z4 z1 z2 z6 z5; obtain ⟨ao5, cp5, rfl, -, -, -⟩ := ownz_form hk5.row.1; have HC5 := Lib.hid (HC.out.node hk5.pm hk5.go); have HC6 := Lib.hid (HC.out.kidsOf hk5); obtain ⟨x0, x1, x2, x3, x4, x5, x6, x7⟩ := HC5.out.cells; have z7 := HC5.out.fz 7; have z4 := HC5.out.fz 4; have z1 := HC5.out.fz 1; have z2 := HC5.out.fz 2; have z6 := HC5.out.fz 6; have z5 := HC5.out.fz 5; clear hk5 HC))
  clear x0 x1 x2 x3 x4 x5 x6 x7 z7 z4 z1 z2 z6 z5
  generalize w5.setCell ⟨w3.heap.size, 7, none⟩ (.slice ao5 q.1.length cp5) = w6 at *
  have HX := Lib.hid (HC6.out.call0 (Fr.refl _ _))
  clear HC6 HC5
  have HRE := Lib.hid (fun (w : World) (K : Nat → Prop) (nv : Value) (h : PM w n K p g cap all nv r.2.leave) => HRD.out w K nv h)
  rw [HR2.out] at HRE
  clear HRD
  go_upto_region 24 with (first | (go_at_call 72; (with_reducible refine (HLV.out _ _ _ HX.out.pm).mono ?_); rintro e wa ⟨rfl, hP, hF⟩; have HXa := Lib.hid (HX.out.call hP hF); clear hP hF HX) | (go_at_call 73; (with_reducible refine (HRE.out _ _ _ HXa.out.pm).mono ?_); rintro e wb ⟨vb, rfl, hrb, hfb, hPb, hFb⟩; obtain ⟨aob, cpb, rfl, -, -, -⟩ := ownz_form hrb.1; have HYb := Lib.hid (⟨hrb, fun k e => Nat.le_trans HXa.out.go.fr.size (hfb k e), fun k e hk => by have h1 := hfb k e; have h2 := HXa.out.pm.x.kb k hk; omega⟩ : _ ∧ (∀ k, own1 (.slice aob d.1.length cpb) k → W.heap.size ≤ k) ∧ ∀ k, own1 (.slice aob d.1.length cpb) k → ¬ _); have HXb := Lib.hid (HXa.out.call hPb hFb); obtain ⟨x0, x1, x2, x3, x4, x5, x6, x7⟩ := HXb.out.cells; have z5 := HXb.out.fz 5; clear hrb hfb hPb hFb HXa))
  clear x0 x1 x2 x3 x4 x5 x6 x7 z5
  have HXc := Lib.hid (HXb.out.setReds HYb.out.1 HYb.out.2.1 HYb.out.2.2 (fun k e => (ownz_type HYb.out.1.1 e).2.1))
  generalize wb.setCell ⟨w3.heap.size, 5, none⟩ (.slice aob d.1.length cpb) = wc at *
  clear HXb HYb
  obtain ⟨x0, x1, x2, x3, x4, x5, x6, x7⟩ := HXc.out.cells
  go_wp2_with (first | (go_at_call 42; (with_reducible refine (HXc.out.done HDP.out).mono ?_); rintro e wd ⟨rfl, hq⟩; have HQ := Lib.hid hq; clear hq))
  go_ret
  rw [← HV.out, HR1.out]
  exact ⟨rfl, HQ.out⟩
set_option maxHeartbeats 8000000 in
theorem compound_for13 {L : S → Int × S} {o : Nat} {bd : Int} (hL : Lst L) (HL : LCon L n p g cap all o bd) (h : PM W n K p g cap all nv s) (ho : o ≤ s.opn + 1) (ho2 : s.opn ≤ 900) (hp : pot s + 80 ≤ bd ∧ bd ≤ 60000) (hk : cKind s.enter.hd.text = 13) :
    Calls Try.prog 61 #[.pointer (some ⟨p, 0, none⟩)] W (NodePost W n K p g cap all nv (compound L s)) := by
  have HEN := Lib.hid (enter_any h (by omega))
  have HNX := Lib.hid (fun (w : World) (h : PM w n K p g cap all nv s.enter) => next_any h)
  have HCK := Lib.hid (fun (w : World) => cKind_any s.enter.hd.text w)
  have st1 := enter_st s n h.x.inv
  have sti := inner_st hL s.enter n st1.1
  obtain ⟨R, hR⟩ : ∃ R, compound L s = R := ⟨_, rfl⟩
  rw [hR]
  unfold compound at hR
  rw [hk] at HCK hR sti
  have hop := enter_open h.x.inv (by rw [hk]; decide)
  have hop1 : s.enter.opn = s.opn + 1 := rfl
  dsimp only at hR
  obtain ⟨r, hr⟩ : ∃ r, inner L s.enter 13 = r := ⟨_, rfl⟩
  rw [hr] at hR sti
  have hro : r.2.opn = s.opn + 1 := by have := sti.2.2.1; have := st1.2.2.1; omega
  have hrp : pot r.2 ≤ pot s := by have := sti.2.2.2; have := st1.2.2.2; omega
  have HLV := Lib.hid (fun (w : World) (K : Nat → Prop) (nv : Value) (h : PM w n K p g cap all nv r.2) => leave_any h ⟨by omega, by omega⟩)
  have st3 := (leave_st (s := r.2) (by omega)) n sti.1
  have HRD := Lib.hid (fun (w : World) (K : Nat → Prop) (nv : Value) (h : PM w n K p g cap all nv r.2.leave) => redirs_any h)
  have st4 := redirs_st r.2.leave n st3.1
  obtain ⟨d, hd⟩ : ∃ d, r.2.leave.redirs = d := ⟨_, rfl⟩
  rw [hd] at hR HRD st4
  have hdp : pot d.2 + 1 ≤ 100000 := by have := st3.2.2.2; have := st4.2.2.2; omega
  have HDP := Lib.hid hdp
  have HV := Lib.hid hR
  have hpe : pot s.enter ≤ pot s := by have := st1.2.2.2; omega
  obtain ⟨t1, ht1⟩ : ∃ t1, s.enter = t1 := ⟨_, rfl⟩
  rw [ht1] at HEN HNX HCK hr hpe st1 hop1 hk
  have HFH := Lib.hid (fun (w : World) (K : Nat → Prop) (nv : Value) (h : PM w n K p g cap all nv t1) => forHead_any h)
  have j1 := need_st t1 (t := [102, 111, 114]) (by decide) n st1.1
  have j2 := name_st (t1.need [102, 111, 114]) n j1.1
  simp only [inner, Int.reduceEq, ↓reduceIte] at hr
  obtain ⟨m, hm⟩ : ∃ m, (t1.need [102, 111, 114]).name = m := ⟨_, rfl⟩
  rw [hm] at HFH hr j2
  have j3 := forIn_st m.2 n j2.1
  obtain ⟨y, hy⟩ : ∃ y, m.2.forIn = y := ⟨_, rfl⟩
  rw [hy] at HFH hr j3
  have HLS := Lib.hid (fun (w : World) (K : Nat → Prop) (nv : Value) (h : PM w n K p g cap all nv y.2) => lists2_any hL HL h ⟨#[100, 111]⟩ ⟨#[100, 111, 110, 101]⟩ [100, 111] [100, 111, 110, 101] rfl rfl (by decide) (by decide) (by have := j1.2.2.1; have := j2.2.2.1; have := j3.2.2.1; omega) (by have := j1.2.2.1; have := j2.2.2.1; have := j3.2.2.1; omega) (by have := j1.2.2.2; have := j2.2.2.2; have := j3.2.2.2; omega))
  obtain ⟨q, hq⟩ : ∃ q, listsG L [[100, 111, 110, 101]] [] (y.2.need [100, 111]) = q := ⟨_, rfl⟩
  rw [hq] at HLS hr
  have hr1 : r.1 = ⟨13, m.1, y.1.1, [], y.1.2, [], [], q.1⟩ := by rw [← hr]
  have hr2 : r.2 = q.2 := by rw [← hr]
  have HR1 := Lib.hid hr1
  rw [hr2] at HLV
  have HR2 := Lib.hid hr2
  clear hr hr1 hr2 hq hR hd st1 sti st3 st4 h hL HL ho ho2 hp hop hop1 hro hrp hdp hpe ht1 hk hm hy j1 j2 j3
  go_enter Try.func61, Try.ntmps61
  go_upto_region 18 with (first | (refine wpList_field rfl _ _ rfl _ _ _ rfl _ rfl ?_) | (go_at_call 65; (with_reducible refine HEN.out.mono ?_); rintro e w1 ⟨rfl, hP, hF⟩; have H1 := Lib.hid hP; have G1 := Lib.hid (Go.of (nv := nv) (K := K) hF); clear hP hF HEN) | (go_at_call 25; (with_reducible refine (HNX.out _ H1.out).mono ?_); rintro e w2 ⟨rfl, hF⟩; have H2 := Lib.hid (H1.out.fr hF); have G2 := Lib.hid (G1.out.call0 hF); clear hF) | (go_at_call 38; (with_reducible refine (HCK.out _).mono ?_); rintro e w3 ⟨rfl, rfl⟩; have HC := Lib.hid (CN.start0 H2.out G2.out 13); obtain ⟨x0, x1, x2, x3, x4, x5, x6, x7⟩ := HC.out.cells; have z7 := HC.out.fz 7; have z4 := HC.out.fz 4; have z1 := HC.out.fz 1; have z2 := HC.out.fz 2; have z6 := HC.out.fz 6; have z5 := HC.out.fz 5) | (go_at_call 69; (with_reducible refine (HFH.out _ _ _ HC.out.pm).mono ?_); rintro e w5 ⟨v5, rfl, hW5⟩; clear x0 x1 x2 x3 x4 x5 x6 x7 z7 z4 z1 z2 z6 z5; obtain ⟨ao5, cp5, rfl, -, -, -⟩ := ownz_form hW5.row.1; have HC5 := Lib.hid (HC.out.call hW5.pm hW5.go); have HY5 := Lib.hid (⟨hW5.row, fun k e => Nat.le_trans HC.out.go.fr.size (hW5.fr k e), fun k e hk => by have h1 := hW5.fr k e; have h2 := HC.out.pm.x.kb k hk; omega⟩ : _ ∧ (∀ k, own1 (.slice ao5 y.1.2.length cp5) k → W.heap.size ≤ k) ∧ ∀ k, own1 (.slice ao5 y.1.2.length cp5) k → ¬ _); obtain ⟨x0, x1, x2, x3, x4, x5, x6, x7⟩ := HC5.out.cells; have z7 := HC5.out.fz 7; have z4 := HC5.out.fz 4; have z1 := HC5.out.fz 1; have z2 := HC5.out.fz 2; have z6 := HC5.out.fz 6; have z5 := HC5.out.fz 5; clear hW5 HC))
  clear x0 x1 x2 x3 x4 x5 x6 x7 z7 z4 z1 z2 z6 z5
  have HC6 := Lib.hid ((HC5.out.setName m.1).setIn y.1.1)
  have hy6 : Strs ((w5.setCell ⟨w3.heap.size, 1, none⟩ (.string (st m.1))).setCell ⟨w3.heap.size, 2, none⟩ (.bool y.1.1)) (own1 (.slice ao5 y.1.2.length cp5)) (.slice ao5 y.1.2.length cp5) y.1.2 := (HY5.out.1.fr (Fr.one _ _ _ _) (HC5.out.set 1 (.bool true)).2.2).fr (Fr.one _ _ _ _) ((HC5.out.setName m.1).set 1 (.bool true)).2.2
  have HC7 := Lib.hid (HC6.out.setWords hy6 HY5.out.2.1 HY5.out.2.2 (fun k e => (ownz_type hy6.1 e).2.1))
  generalize ((w5.setCell ⟨w3.heap.size, 1, none⟩ (.string (st m.1))).setCell ⟨w3.heap.size, 2, none⟩ (.bool y.1.1)).setCell ⟨w3.heap.size, 4, none⟩ (.slice ao5 y.1.2.length cp5) = w6 at *
  clear HC5 HC6 HY5 hy6
  obtain ⟨x0, x1, x2, x3, x4, x5, x6, x7⟩ := HC7.out.cells
  have z7 := HC7.out.fz 7
  have z4 := HC7.out.fz 4
  have z1 := HC7.out.fz 1
  have z2 := HC7.out.fz 2
  have z6 := HC7.out.fz 6
  have z5 := HC7.out.fz 5
  go_upto_region 22 with (first | (go_at_call 66; (with_reducible refine (HLS.out _ _ _ HC7.out.pm _ rfl).mono ?_); rintro e w8 ⟨v8, nv8, K8, rfl, hk8⟩; clear x0 x1 x2 x3 x4 x5 x6 x7 z7 z4 z1 z2 z6 z5; obtain ⟨ao8, cp8, rfl, -, -, -⟩ := ownz_form hk8.row.1; have HC8 := Lib.hid (HC7.out.node hk8.pm hk8.go); have HC9 := Lib.hid (HC7.out.kidsOf hk8); obtain ⟨x0, x1, x2, x3, x4, x5, x6, x7⟩ := HC8.out.cells; have z7 := HC8.out.fz 7; have z4 := HC8.out.fz 4; have z1 := HC8.out.fz 1; have z2 := HC8.out.fz 2; have z6 := HC8.out.fz 6; have z5 := HC8.out.fz 5; clear hk8 HC7))
  clear x0 x1 x2 x3 x4 x5 x6 x7 z7 z4 z1 z2 z6 z5
  generalize w8.setCell ⟨w3.heap.size, 7, none⟩ (.slice ao8 q.1.length cp8) = w9 at *
  have HX := Lib.hid (HC9.out.call0 (Fr.refl _ _))
  clear HC9 HC8
  have HRE := Lib.hid (fun (w : World) (K : Nat → Prop) (nv : Value) (h : PM w n K p g cap all nv r.2.leave) => HRD.out w K nv h)
  rw [HR2.out] at HRE
  clear HRD
  go_upto_region 24 with (first | (go_at_call 72; (with_reducible refine (HLV.out _ _ _ HX.out.pm).mono ?_); rintro e wa ⟨rfl, hP, hF⟩; have HXa := Lib.hid (HX.out.call hP hF); clear hP hF HX) | (go_at_call 73; (with_reducible refine (HRE.out _ _ _ HXa.out.pm).mono ?_); rintro e wb ⟨vb, rfl, hrb, hfb, hPb, hFb⟩; obtain ⟨aob, cpb, rfl, -, -, -⟩ := ownz_form hrb.1; have HYb := Lib.hid (⟨hrb, fun k e => Nat.le_trans HXa.out.go.fr.size (hfb k e), fun k e hk => by have h1 := hfb k e; have h2 := HXa.out.pm.x.kb k hk; omega⟩ : _ ∧ (∀ k, own1 (.slice aob d.1.length cpb) k → W.heap.size ≤ k) ∧ ∀ k, own1 (.slice aob d.1.length cpb) k → ¬ _); have HXb := Lib.hid (HXa.out.call hPb hFb); obtain ⟨x0, x1, x2, x3, x4, x5, x6, x7⟩ := HXb.out.cells; have z5 := HXb.out.fz 5; clear hrb hfb hPb hFb HXa))
  clear x0 x1 x2 x3 x4 x5 x6 x7 z5
  have HXc := Lib.hid (HXb.out.setReds HYb.out.1 HYb.out.2.1 HYb.out.2.2 (fun k e => (ownz_type HYb.out.1.1 e).2.1))
  generalize wb.setCell ⟨w3.heap.size, 5, none⟩ (.slice aob d.1.length cpb) = wc at *
  clear HXb HYb
  obtain ⟨x0, x1, x2, x3, x4, x5, x6, x7⟩ := HXc.out.cells
  go_wp2_with (first | (go_at_call 42; (with_reducible refine (HXc.out.done HDP.out).mono ?_); rintro e wd ⟨rfl, hq⟩; have HQ := Lib.hid hq; clear hq))
  go_ret
  rw [← HV.out, HR1.out]
  exact ⟨rfl, HQ.out⟩
set_option maxHeartbeats 8000000 in
theorem compound_case14 {L : S → Int × S} {o : Nat} {bd : Int} (hL : Lst L) (HL : LCon L n p g cap all o bd) (h : PM W n K p g cap all nv s) (ho : o ≤ s.opn + 1) (ho2 : s.opn ≤ 900) (hp : pot s + 80 ≤ bd ∧ bd ≤ 60000) (hk : cKind s.enter.hd.text = 14) :
    Calls Try.prog 61 #[.pointer (some ⟨p, 0, none⟩)] W (NodePost W n K p g cap all nv (compound L s)) := by
  have HEN := Lib.hid (enter_any h (by omega))
  have HNX := Lib.hid (fun (w : World) (h : PM w n K p g cap all nv s.enter) => next_any h)
  have HCK := Lib.hid (fun (w : World) => cKind_any s.enter.hd.text w)
  have st1 := enter_st s n h.x.inv
  have sti := inner_st hL s.enter n st1.1
  obtain ⟨R, hR⟩ : ∃ R, compound L s = R := ⟨_, rfl⟩
  rw [hR]
  unfold compound at hR
  rw [hk] at HCK hR sti
  have hop := enter_open h.x.inv (by rw [hk]; decide)
  have hop1 : s.enter.opn = s.opn + 1 := rfl
  dsimp only at hR
  obtain ⟨r, hr⟩ : ∃ r, inner L s.enter 14 = r := ⟨_, rfl⟩
  rw [hr] at hR sti
  have hro : r.2.opn = s.opn + 1 := by have := sti.2.2.1; have := st1.2.2.1; omega
  have hrp : pot r.2 ≤ pot s := by have := sti.2.2.2; have := st1.2.2.2; omega
  have HLV := Lib.hid (fun (w : World) (K : Nat → Prop) (nv : Value) (h : PM w n K p g cap all nv r.2) => leave_any h ⟨by omega, by omega⟩)
  have st3 := (leave_st (s := r.2) (by omega)) n sti.1
  have HRD := Lib.hid (fun (w : World) (K : Nat → Prop) (nv : Value) (h : PM w n K p g cap all nv r.2.leave) => redirs_any h)
  have st4 := redirs_st r.2.leave n st3.1
  obtain ⟨d, hd⟩ : ∃ d, r.2.leave.redirs = d := ⟨_, rfl⟩
  rw [hd] at hR HRD st4
  have hdp : pot d.2 + 1 ≤ 100000 := by have := st3.2.2.2; have := st4.2.2.2; omega
  have HDP := Lib.hid hdp
  have HV := Lib.hid hR
  have hpe : pot s.enter ≤ pot s := by have := st1.2.2.2; omega
  obtain ⟨t1, ht1⟩ : ∃ t1, s.enter = t1 := ⟨_, rfl⟩
  rw [ht1] at HEN HNX HCK hr hpe st1 hop1 hk
  have HCH := Lib.hid (fun (w : World) (K : Nat → Prop) (nv : Value) (h : PM w n K p g cap all nv t1) => caseHead_any h)
  have j1 := caseHead_st t1 n st1.1
  simp only [inner, Int.reduceEq, ↓reduceIte] at hr
  obtain ⟨m, hm⟩ : ∃ m, t1.caseHead = m := ⟨_, rfl⟩
  rw [hm] at HCH hr j1
  have HCI := Lib.hid (fun (w : World) (K : Nat → Prop) (nv : Value) (h : PM w n K p g cap all nv m.2) => caseItems_any hL HL h (by have := j1.2.2.1; omega) (by have := j1.2.2.1; omega) (by have := j1.2.2.2; omega))
  obtain ⟨q, hq⟩ : ∃ q, caseG L m.2.ts.length [] [] m.2 = q := ⟨_, rfl⟩
  rw [hq] at HCI hr
  have hr1 : r.1 = ⟨14, [], false, [], [m.1], [], q.1.1, q.1.2⟩ := by rw [← hr]
  have hr2 : r.2 = q.2 := by rw [← hr]
  have HR1 := Lib.hid hr1
  rw [hr2] at HLV
  have HR2 := Lib.hid hr2
  clear hr hr1 hr2 hq hR hd st1 sti st3 st4 h hL HL ho ho2 hp hop hop1 hro hrp hdp hpe ht1 hk hm j1
  go_enter Try.func61, Try.ntmps61
  go_upto_region 21 with (first | (refine wpList_field rfl _ _ rfl _ _ _ rfl _ rfl ?_) | (go_at_call 65; (with_reducible refine HEN.out.mono ?_); rintro e w1 ⟨rfl, hP, hF⟩; have H1 := Lib.hid hP; have G1 := Lib.hid (Go.of (nv := nv) (K := K) hF); clear hP hF HEN) | (go_at_call 25; (with_reducible refine (HNX.out _ H1.out).mono ?_); rintro e w2 ⟨rfl, hF⟩; have H2 := Lib.hid (H1.out.fr hF); have G2 := Lib.hid (G1.out.call0 hF); clear hF) | (go_at_call 38; (with_reducible refine (HCK.out _).mono ?_); rintro e w3 ⟨rfl, rfl⟩; have HC := Lib.hid (CN.start0 H2.out G2.out 14); obtain ⟨x0, x1, x2, x3, x4, x5, x6, x7⟩ := HC.out.cells; have z7 := HC.out.fz 7; have z4 := HC.out.fz 4; have z1 := HC.out.fz 1; have z2 := HC.out.fz 2; have z6 := HC.out.fz 6; have z5 := HC.out.fz 5) | (go_at_call 70; (with_reducible refine (HCH.out _ _ _ HC.out.pm).mono ?_); rintro e w5 ⟨v5, rfl, hW5⟩; clear x0 x1 x2 x3 x4 x5 x6 x7 z7 z4 z1 z2 z6 z5; obtain ⟨ao5, cp5, hv5, -, -, -⟩ := ownz_form hW5.row.1; have hv6 : v5 = .slice ao5 1 cp5 := hv5; clear hv5; subst hv6; have HC5 := Lib.hid (HC.out.call hW5.pm hW5.go); have HC6 := Lib.hid (HC.out.wordsOf hW5); obtain ⟨x0, x1, x2, x3, x4, x5, x6, x7⟩ := HC5.out.cells; have z7 := HC5.out.fz 7; have z4 := HC5.out.fz 4; have z1 := HC5.out.fz 1; have z2 := HC5.out.fz 2; have z6 := HC5.out.fz 6; have z5 := HC5.out.fz 5; clear hW5 HC))
  clear x0 x1 x2 x3 x4 x5 x6 x7 z7 z4 z1 z2 z6 z5
  generalize w5.setCell ⟨w3.heap.size, 4, none⟩ (.slice ao5 1 cp5) = w6 at *
  clear HC5
  go_upto_region 22 with (first | (go_at_call 71; (with_reducible refine (HCI.out _ _ _ HC6.out.pm).mono ?_); rintro e w8 ⟨pv8, kv8, nv8, K8, X8, rfl, hk8⟩; obtain ⟨vs8, hp8, -⟩ := hk8.pats; obtain ⟨ap8, cq8, rfl, -, -, -⟩ := ownz_form hp8; obtain ⟨ao8, cp8, rfl, -, -, -⟩ := ownz_form hk8.kr.row.1; have HC8 := Lib.hid (HC6.out.node hk8.kr.pm hk8.kr.go); have HK8 := Lib.hid hk8; have HZ8 := Lib.hid HC6.out.go.fr.size; obtain ⟨x0, x1, x2, x3, x4, x5, x6, x7⟩ := HC8.out.cells; have z7 := HC8.out.fz 7; have z4 := HC8.out.fz 4; have z1 := HC8.out.fz 1; have z2 := HC8.out.fz 2; have z6 := HC8.out.fz 6; have z5 := HC8.out.fz 5; clear hk8 hp8 HC6))
  clear x0 x1 x2 x3 x4 x5 x6 x7 z7 z4 z1 z2 z6 z5
  have HC9 := Lib.hid (HC8.out.setPats HK8.out.pats (fun k e => Nat.le_trans HZ8.out (HK8.out.xf k e)) HK8.out.xm HK8.out.xw)
  have hr9 : Ints (w8.setCell ⟨w3.heap.size, 6, none⟩ (.slice ap8 q.1.1.length cq8)) (own1 (.slice ao8 q.1.2.length cp8)) (.slice ao8 q.1.2.length cp8) q.1.2 := HK8.out.kr.row.fr (Fr.one _ _ _ _) (HC8.out.set 6 (.bool true)).2.2
  have HX := Lib.hid (HC9.out.setKids hr9 (fun k e => Nat.le_trans HZ8.out (HK8.out.kr.fr k e)) HK8.out.kr.mine (fun k e => (ownz_type hr9.1 e).2.1))
  generalize (w8.setCell ⟨w3.heap.size, 6, none⟩ (.slice ap8 q.1.1.length cq8)).setCell ⟨w3.heap.size, 7, none⟩ (.slice ao8 q.1.2.length cp8) = w9 at *
  clear HC9 HC8 hr9 HK8 HZ8
  have HRE := Lib.hid (fun (w : World) (K : Nat → Prop) (nv : Value) (h : PM w n K p g cap all nv r.2.leave) => HRD.out w K nv h)
  rw [HR2.out] at HRE
  clear HRD
  go_upto_region 24 with (first | (go_at_call 72; (with_reducible refine (HLV.out _ _ _ HX.out.pm).mono ?_); rintro e wa ⟨rfl, hP, hF⟩; have HXa := Lib.hid (HX.out.call hP hF); clear hP hF HX) | (go_at_call 73; (with_reducible refine (HRE.out _ _ _ HXa.out.pm).mono ?_); rintro e wb ⟨vb, rfl, hrb, hfb, hPb, hFb⟩; obtain ⟨aob, cpb, rfl, -, -, -⟩ := ownz_form hrb.1; have HYb := Lib.hid (⟨hrb, fun k e => Nat.le_trans HXa.out.go.fr.size (hfb k e), fun k e hk => by have h1 := hfb k e; have h2 := HXa.out.pm.x.kb k hk; omega⟩ : _ ∧ (∀ k, own1 (.slice aob d.1.length cpb) k → W.heap.size ≤ k) ∧ ∀ k, own1 (.slice aob d.1.length cpb) k → ¬ _); have HXb := Lib.hid (HXa.out.call hPb hFb); obtain ⟨x0, x1, x2, x3, x4, x5, x6, x7⟩ := HXb.out.cells; have z5 := HXb.out.fz 5; clear hrb hfb hPb hFb HXa))
  clear x0 x1 x2 x3 x4 x5 x6 x7 z5
  have HXc := Lib.hid (HXb.out.setReds HYb.out.1 HYb.out.2.1 HYb.out.2.2 (fun k e => (ownz_type HYb.out.1.1 e).2.1))
  generalize wb.setCell ⟨w3.heap.size, 5, none⟩ (.slice aob d.1.length cpb) = wc at *
  clear HXb HYb
  obtain ⟨x0, x1, x2, x3, x4, x5, x6, x7⟩ := HXc.out.cells
  go_wp2_with (first | (go_at_call 42; (with_reducible refine (HXc.out.done HDP.out).mono ?_); rintro e wd ⟨rfl, hq⟩; have HQ := Lib.hid hq; clear hq))
  go_ret
  rw [← HV.out, HR1.out]
  exact ⟨rfl, HQ.out⟩
set_option maxHeartbeats 8000000 in
theorem compound_none0 {L : S → Int × S} {o : Nat} {bd : Int} (hL : Lst L) (HL : LCon L n p g cap all o bd) (h : PM W n K p g cap all nv s) (ho : o ≤ s.opn + 1) (ho2 : s.opn ≤ 900) (hp : pot s + 80 ≤ bd ∧ bd ≤ 60000) (hk : cKind s.enter.hd.text = 0) :
    Calls Try.prog 61 #[.pointer (some ⟨p, 0, none⟩)] W (NodePost W n K p g cap all nv (compound L s)) := by
  have HEN := Lib.hid (enter_any h (by omega))
  have HNX := Lib.hid (fun (w : World) (h : PM w n K p g cap all nv s.enter) => next_any h)
  have HCK := Lib.hid (fun (w : World) => cKind_any s.enter.hd.text w)
  have st1 := enter_st s n h.x.inv
  have sti := inner_st hL s.enter n st1.1
  obtain ⟨R, hR⟩ : ∃ R, compound L s = R := ⟨_, rfl⟩
  rw [hR]
  unfold compound at hR
  rw [hk] at HCK hR sti
  dsimp only at hR
  obtain ⟨r, hr⟩ : ∃ r, inner L s.enter 0 = r := ⟨_, rfl⟩
  rw [hr] at hR sti
  have hro : r.2.opn = s.opn + 1 := by have := sti.2.2.1; have := st1.2.2.1; omega
  have hrp : pot r.2 ≤ pot s := by have := sti.2.2.2; have := st1.2.2.2; omega
  have HLV := Lib.hid (fun (w : World) (K : Nat → Prop) (nv : Value) (h : PM w n K p g cap all nv r.2) => leave_any h ⟨by omega, by omega⟩)
  have st3 := (leave_st (s := r.2) (by omega)) n sti.1
  have HRD := Lib.hid (fun (w : World) (K : Nat → Prop) (nv : Value) (h : PM w n K p g cap all nv r.2.leave) => redirs_any h)
  have st4 := redirs_st r.2.leave n st3.1
  obtain ⟨d, hd⟩ : ∃ d, r.2.leave.redirs = d := ⟨_, rfl⟩
  rw [hd] at hR HRD st4
  have hdp : pot d.2 + 1 ≤ 100000 := by have := st3.2.2.2; have := st4.2.2.2; omega
  have HDP := Lib.hid hdp
  have HV := Lib.hid hR
  have hpe : pot s.enter ≤ pot s := by have := st1.2.2.2; omega
  obtain ⟨t1, ht1⟩ : ∃ t1, s.enter = t1 := ⟨_, rfl⟩
  rw [ht1] at HEN HNX HCK hr hpe st1 hk
  have HFL := Lib.hid (fun (w : World) (h : PM w n K p g cap all nv t1) => fail_any h)
  simp only [inner, Int.reduceEq, ↓reduceIte] at hr
  have hr1 : r.1 = ⟨0, [], false, [], [], [], [], []⟩ := by rw [← hr]; rfl
  have hr2 : r.2 = t1.fail := by rw [← hr]
  have HR1 := Lib.hid hr1
  rw [hr2] at HLV
  have HR2 := Lib.hid hr2
  clear hr hr1 hr2 hR hd st1 sti st3 st4 h hL HL ho ho2 hp hro hrp hdp hpe ht1 hk
  go_enter Try.func61, Try.ntmps61
  go_upto_region 22 with (first | (refine wpList_field rfl _ _ rfl _ _ _ rfl _ rfl ?_) | (go_at_call 65; (with_reducible refine HEN.out.mono ?_); rintro e w1 ⟨rfl, hP, hF⟩; have H1 := Lib.hid hP; have G1 := Lib.hid (Go.of (nv := nv) (K := K) hF); clear hP hF HEN) | (go_at_call 25; (with_reducible refine (HNX.out _ H1.out).mono ?_); rintro e w2 ⟨rfl, hF⟩; have H2 := Lib.hid (H1.out.fr hF); have G2 := Lib.hid (G1.out.call0 hF); clear hF) | (go_at_call 38; (with_reducible refine (HCK.out _).mono ?_); rintro e w3 ⟨rfl, rfl⟩; have HC := Lib.hid (CN.start0 H2.out G2.out 0); obtain ⟨x0, x1, x2, x3, x4, x5, x6, x7⟩ := HC.out.cells; have z7 := HC.out.fz 7; have z4 := HC.out.fz 4; have z1 := HC.out.fz 1; have z2 := HC.out.fz 2; have z6 := HC.out.fz 6; have z5 := HC.out.fz 5) | (go_at_call 26; (with_reducible refine (HFL.out _ HC.out.pm).mono ?_); rintro e w5 ⟨rfl, hP, hF⟩; have HX := Lib.hid (HC.out.call hP hF); clear hP hF))
  clear x0 x1 x2 x3 x4 x5 x6 x7 z7 z4 z1 z2 z6 z5
  clear HC
  have HRE := Lib.hid (fun (w : World) (K : Nat → Prop) (nv : Value) (h : PM w n K p g cap all nv r.2.leave) => HRD.out w K nv h)
  rw [HR2.out] at HRE
  clear HRD
  go_upto_region 24 with (first | (go_at_call 72; (with_reducible refine (HLV.out _ _ _ HX.out.pm).mono ?_); rintro e wa ⟨rfl, hP, hF⟩; have HXa := Lib.hid (HX.out.call hP hF); clear hP hF HX) | (go_at_call 73; (with_reducible refine (HRE.out _ _ _ HXa.out.pm).mono ?_); rintro e wb ⟨vb, rfl, hrb, hfb, hPb, hFb⟩; obtain ⟨aob, cpb, rfl, -, -, -⟩ := ownz_form hrb.1; have HYb := Lib.hid (⟨hrb, fun k e => Nat.le_trans HXa.out.go.fr.size (hfb k e), fun k e hk => by have h1 := hfb k e; have h2 := HXa.out.pm.x.kb k hk; omega⟩ : _ ∧ (∀ k, own1 (.slice aob d.1.length cpb) k → W.heap.size ≤ k) ∧ ∀ k, own1 (.slice aob d.1.length cpb) k → ¬ _); have HXb := Lib.hid (HXa.out.call hPb hFb); obtain ⟨x0, x1, x2, x3, x4, x5, x6, x7⟩ := HXb.out.cells; have z5 := HXb.out.fz 5; clear hrb hfb hPb hFb HXa))
  clear x0 x1 x2 x3 x4 x5 x6 x7 z5
  have HXc := Lib.hid (HXb.out.setReds HYb.out.1 HYb.out.2.1 HYb.out.2.2 (fun k e => (ownz_type HYb.out.1.1 e).2.1))
  generalize wb.setCell ⟨w3.heap.size, 5, none⟩ (.slice aob d.1.length cpb) = wc at *
  clear HXb HYb
  obtain ⟨x0, x1, x2, x3, x4, x5, x6, x7⟩ := HXc.out.cells
  go_wp2_with (first | (go_at_call 42; (with_reducible refine (HXc.out.done HDP.out).mono ?_); rintro e wd ⟨rfl, hq⟩; have HQ := Lib.hid hq; clear hq))
  go_ret
  rw [← HV.out, HR1.out]
  exact ⟨rfl, HQ.out⟩
end
end Go.Proofs.Ytoahgblgchmclaa
