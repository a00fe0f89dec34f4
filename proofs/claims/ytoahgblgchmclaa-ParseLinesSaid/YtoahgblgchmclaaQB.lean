/- Items and lists. -/
import Derived.Test.YtoahgblgchmclaaQA
namespace Go.Proofs.Ytoahgblgchmclaa
open Go.RowKit
set_option linter.unusedVariables false
set_option linter.unusedSimpArgs false
section
variable {W w w' : World} {n p g cap : Nat} {K Kt : Nat → Prop} {all : List Tk} {nv nvt : Value} {s t : S}
def itRel (W : World) (n : Nat) (K : Nat → Prop) (p g cap : Nat) (all : List Tk) (nv : Value) (L : S → Int × S) (s : S) (R : Int × S) (lv : Value) (wr : World) : Prop :=
  ∃ (i : Int) (t : S) (nvt : Value) (Kt : Nat → Prop) (m : Nat), lv = .int .i64 i ∧ PM wr n Kt p g cap all nvt t ∧ Go p nv nvt K Kt W wr ∧ andG L m i t = R ∧ t.ts.length ≤ m ∧ t.opn = s.opn ∧ pot t ≤ pot s + 4
set_option maxHeartbeats 8000000 in
theorem item_any {L : S → Int × S} {o : Nat} {bd : Int} (hL : Lst L) (HL : LCon L n p g cap all o bd) (h : PM W n K p g cap all nv s) (ho : o ≤ s.opn + 1) (ho2 : s.opn ≤ 800) (hp : pot s + 110 ≤ bd ∧ bd ≤ 60000) :
    Calls Try.prog 41 #[.pointer (some ⟨p, 0, none⟩)] W (NodePost W n K p g cap all nv (item L s)) := by
  have HP0 := Lib.hid (pipe_any hL HL h ho ho2 (by omega))
  obtain ⟨R, hR⟩ : ∃ R, item L s = R := ⟨_, rfl⟩
  rw [hR]
  unfold item at hR
  dsimp only at hR
  have i1 := pipe_st hL s n h.x.inv
  obtain ⟨c, hc⟩ : ∃ c, pipe L s = c := ⟨_, rfl⟩
  rw [hc] at HP0 hR i1
  have HR0 := Lib.hid hR
  have HOT := Lib.hid (show c.2.opn = s.opn ∧ pot c.2 ≤ pot s + 4 from ⟨by have := i1.2.2.1; omega, by have := i1.2.2.2; omega⟩)
  have HPP := Lib.hid (fun (t : S) (h1 : o ≤ t.opn + 1) (h2 : t.opn ≤ 800) (h3 : pot t + 100 ≤ bd ∧ bd ≤ 60000) (w : World) (K : Nat → Prop) (nv : Value) (h : PM w n K p g cap all nv t) => pipe_any hL HL h h1 h2 h3)
  have HPS := Lib.hid (fun (t : S) => pipe_st hL t)
  have HB3 := Lib.hid (⟨ho, ho2, hp⟩ : _ ∧ _ ∧ _)
  clear hR hc i1 h hL HL ho ho2 hp
  go_enter Try.func41, Try.ntmps41
  go_wp2_with (first | (go_at_call 51; (with_reducible refine HP0.out.mono ?_); rintro e w1 ⟨rfl, nv1, K1, hP, hG⟩; have H1 := Lib.hid hP; have G1 := Lib.hid hG; clear hP hG))
  go_loopw [3, 4] (fun lv _ wr => itRel W n K p g cap all nv L s R lv wr) (fun _ _ wr => leftOf wr p)
  case atStart => exact ⟨_, _, _, _, _, rfl, H1.out, G1.out, HR0.out, Nat.le_refl _, HOT.out.1, HOT.out.2⟩
  case round =>
    obtain ⟨i, t, nvt, Kt, m, rfl, hK, hGo, hr, hm, hopn, hpot⟩ := hrel
    clear H1 G1 HR0 HOT HP0
    have HK := Lib.hid hK
    have HGo := Lib.hid hGo
    have HML := Lib.hid hK.left
    have inv := hK.x.inv
    have hpos := inv.good.ne
    obtain ⟨m, rfl⟩ : ∃ m', m = m' + 1 := ⟨m - 1, by omega⟩
    rw [andG] at hr
    have HT := Lib.hid (takes_any hK ⟨#[124, 124]⟩ [124, 124] rfl (by decide))
    have HT2 := Lib.hid (fun (w : World) (h : PM w n Kt p g cap all nvt t) => takes_any h ⟨#[38, 38]⟩ [38, 38] rfl (by decide))
    cases hb : t.is [124, 124] with
    | true =>
      rw [if_pos hb] at hr
      dsimp only at hr
      rw [hb] at HT
      have hmay : t.may [124, 124] = t.adv := by unfold S.may; rw [if_pos hb]
      rw [hmay] at HT
      have j1 := adv_is (by decide) hb n inv
      have HBR := Lib.hid (fun (w : World) (K : Nat → Prop) (nv : Value) (h : PM w n K p g cap all nv t.adv) => breaks_any h)
      have j2 := breaks_st t.adv n j1.1
      obtain ⟨u, hu⟩ : ∃ u, t.adv.breaks = u := ⟨_, rfl⟩
      rw [hu] at HBR hr j2
      have hub : u.opn = s.opn ∧ pot u ≤ pot s := ⟨by have := j1.2.2.1; have := j2.2.2.1; omega, by have := j1.2.2.2; have := j2.2.2.2; omega⟩
      have HCU := Lib.hid (HPP.out u (by have := HB3.out.1; omega) (by have := HB3.out.2.1; omega) (by have := HB3.out.2.2; omega))
      have j3 := HPS.out u n j2.1
      obtain ⟨d, hd⟩ : ∃ d, pipe L u = d := ⟨_, rfl⟩
      rw [hd] at HCU hr j3
      have HV2 := Lib.hid hr
      have j4 := add_st d.2 (nd 5 [i, d.1]) n j3.1
      have hsz2 : (d.2.add (nd 5 [i, d.1])).2.ts.length + 1 ≤ t.ts.length := by
        have h1 := j2.2.1.suf.length_le
        have h2 := j3.2.1.suf.length_le
        have h3 : t.adv.ts.length = t.ts.length - 1 := List.length_tail
        have h4 : (d.2.add (nd 5 [i, d.1])).2.ts = d.2.ts := rfl
        rw [h4]
        omega
      have hdp : pot d.2 + 1 ≤ 100000 := by have := j3.2.2.2; have := HB3.out.2.2; omega
      have HDP := Lib.hid hdp
      have HOT := Lib.hid (show (d.2.add (nd 5 [i, d.1])).2.opn = s.opn ∧ pot (d.2.add (nd 5 [i, d.1])).2 ≤ pot s + 4 from ⟨by have := j3.2.2.1; have := j4.2.2.1; omega, by have := j1.2.2.2; have := j2.2.2.2; have := j3.2.2.2; have := j4.2.2.2; omega⟩)
      clear hK hGo hr hb hmay inv hopn hpot hu hd j1 j2 j3 j4 hub hdp
      go_wp2_with (first | (go_at_call 37; (with_reducible refine HT.out.mono ?_); rintro e w3 ⟨rfl, hP, hF⟩; have H3 := Lib.hid hP; have G3 := Lib.hid (HGo.out.call hF); clear hP hF HT) | (go_at_call 22; (with_reducible refine (HBR.out _ _ _ H3.out).mono ?_); rintro e w4 ⟨rfl, hP, hF⟩; have H4 := Lib.hid hP; have G4 := Lib.hid (G3.out.call hF); clear hP hF) | (go_at_call 51; (with_reducible refine (HCU.out _ _ _ H4.out).mono ?_); rintro e w5 ⟨rfl, nv5, K5, hP, hG⟩; have H5 := Lib.hid hP; have G5 := Lib.hid (G4.out.trans hG); clear hP hG) | (go_at_call 42; (with_reducible refine (add_kids H5.out.alc 5 (ints_new2 w5 i d.1) HDP.out).mono ?_); rintro e w6 ⟨rfl, nv6, hP, hG⟩; have H6 := Lib.hid hP; have G6 := Lib.hid ((G5.out.al (.cells #[.int .i64 i, .int .i64 d.1] 3)).addRow (v := .slice (some ⟨w5.heap.size, 0, none⟩) 2 2) hG (new_fresh G5.out.fr.size)); clear hP hG))
      refine ⟨⟨_, _, _, _, m, rfl, H6.out, G6.out, HV2.out, by omega, HOT.out.1, HOT.out.2⟩, ?_⟩
      rw [H6.out.left, HML.out]
      omega
    | false =>
      rw [if_neg (by rw [hb]; decide)] at hr
      rw [hb] at HT
      have hmay : t.may [124, 124] = t := by unfold S.may; rw [if_neg (by rw [hb]; decide)]
      rw [hmay] at HT
      cases hb2 : t.is [38, 38] with
      | true =>
        rw [if_pos hb2] at hr
        dsimp only at hr
        rw [hb2] at HT2
        have hmay2 : t.may [38, 38] = t.adv := by unfold S.may; rw [if_pos hb2]
        rw [hmay2] at HT2
        have j1 := adv_is (by decide) hb2 n inv
        have HBR := Lib.hid (fun (w : World) (K : Nat → Prop) (nv : Value) (h : PM w n K p g cap all nv t.adv) => breaks_any h)
        have j2 := breaks_st t.adv n j1.1
        obtain ⟨u, hu⟩ : ∃ u, t.adv.breaks = u := ⟨_, rfl⟩
        rw [hu] at HBR hr j2
        have hub : u.opn = s.opn ∧ pot u ≤ pot s := ⟨by have := j1.2.2.1; have := j2.2.2.1; omega, by have := j1.2.2.2; have := j2.2.2.2; omega⟩
        have HCU := Lib.hid (HPP.out u (by have := HB3.out.1; omega) (by have := HB3.out.2.1; omega) (by have := HB3.out.2.2; omega))
        have j3 := HPS.out u n j2.1
        obtain ⟨d, hd⟩ : ∃ d, pipe L u = d := ⟨_, rfl⟩
        rw [hd] at HCU hr j3
        have HV2 := Lib.hid hr
        have j4 := add_st d.2 (nd 4 [i, d.1]) n j3.1
        have hsz2 : (d.2.add (nd 4 [i, d.1])).2.ts.length + 1 ≤ t.ts.length := by
          have h1 := j2.2.1.suf.length_le
          have h2 := j3.2.1.suf.length_le
          have h3 : t.adv.ts.length = t.ts.length - 1 := List.length_tail
          have h4 : (d.2.add (nd 4 [i, d.1])).2.ts = d.2.ts := rfl
          rw [h4]
          omega
        have hdp : pot d.2 + 1 ≤ 100000 := by have := j3.2.2.2; have := HB3.out.2.2; omega
        have HDP := Lib.hid hdp
        have HOT := Lib.hid (show (d.2.add (nd 4 [i, d.1])).2.opn = s.opn ∧ pot (d.2.add (nd 4 [i, d.1])).2 ≤ pot s + 4 from ⟨by have := j3.2.2.1; have := j4.2.2.1; omega, by have := j1.2.2.2; have := j2.2.2.2; have := j3.2.2.2; have := j4.2.2.2; omega⟩)
        clear hK hGo hr hb hb2 hmay2 hmay inv hopn hpot hu hd j1 j2 j3 j4 hub hdp
        go_wp2_with (first | (go_at_call 37; (with_reducible refine HT.out.mono ?_); rintro e w3 ⟨rfl, hP, hF⟩; have H3 := Lib.hid hP; have G3 := Lib.hid (HGo.out.call hF); clear hP hF HT) | (go_at_call 37; (with_reducible refine (HT2.out _ H3.out).mono ?_); rintro e w3b ⟨rfl, hP, hF⟩; have H3b := Lib.hid hP; have G3b := Lib.hid (G3.out.call hF); clear hP hF) | (go_at_call 22; (with_reducible refine (HBR.out _ _ _ H3b.out).mono ?_); rintro e w4 ⟨rfl, hP, hF⟩; have H4 := Lib.hid hP; have G4 := Lib.hid (G3b.out.call hF); clear hP hF) | (go_at_call 51; (with_reducible refine (HCU.out _ _ _ H4.out).mono ?_); rintro e w5 ⟨rfl, nv5, K5, hP, hG⟩; have H5 := Lib.hid hP; have G5 := Lib.hid (G4.out.trans hG); clear hP hG) | (go_at_call 42; (with_reducible refine (add_kids H5.out.alc 4 (ints_new2 w5 i d.1) HDP.out).mono ?_); rintro e w6 ⟨rfl, nv6, hP, hG⟩; have H6 := Lib.hid hP; have G6 := Lib.hid ((G5.out.al (.cells #[.int .i64 i, .int .i64 d.1] 3)).addRow (v := .slice (some ⟨w5.heap.size, 0, none⟩) 2 2) hG (new_fresh G5.out.fr.size)); clear hP hG))
        refine ⟨⟨_, _, _, _, m, rfl, H6.out, G6.out, HV2.out, by omega, HOT.out.1, HOT.out.2⟩, ?_⟩
        rw [H6.out.left, HML.out]
        omega
      | false =>
        rw [if_neg (by rw [hb2]; decide)] at hr
        rw [hb2] at HT2
        have hmay2 : t.may [38, 38] = t := by unfold S.may; rw [if_neg (by rw [hb2]; decide)]
        rw [hmay2] at HT2
        have HV2 := Lib.hid hr
        clear hK hGo hr hb hb2 hmay2 hmay inv hopn hpot
        go_wp2_with (first | (go_at_call 37; (with_reducible refine HT.out.mono ?_); rintro e w3 ⟨rfl, hP, hF⟩; have H3 := Lib.hid hP; have G3 := Lib.hid (HGo.out.call hF); clear hP hF HT) | (go_at_call 37; (with_reducible refine (HT2.out _ H3.out).mono ?_); rintro e w3b ⟨rfl, hP, hF⟩; have H3b := Lib.hid hP; have G3b := Lib.hid (G3.out.call hF); clear hP hF))
        go_ret
        rw [← HV2.out]
        exact ⟨rfl, _, _, H3b.out, G3b.out⟩
def liMeas (mv : Value) (k : Nat) : Nat := match mv with
  | .bool true => k + 1
  | _ => 0
def liRel (W : World) (n : Nat) (K : Nat → Prop) (p g cap : Nat) (all : List Tk) (nv : Value) (L : S → Int × S) (s : S) (R : (List Int × Bool) × S) (iv bv mv : Value) (wr : World) : Prop :=
  ∃ (l : List Int) (b mo : Bool) (t : S) (nvt : Value) (Kt : Nat → Prop) (m : Nat), bv = .bool b ∧ mv = .bool mo ∧ KR W n K p g cap all nv wr t nvt Kt iv l ∧ l.length + t.ts.length ≤ 6001 ∧
    (mo = true → itemsG L m l b t = R ∧ t.ts.length ≤ m ∧ t.opn = s.opn ∧ pot t ≤ pot s ∧ l.length + t.ts.length ≤ 6000) ∧ (mo = false → ((l, b), t) = R ∧ 0 < l.length ∧ pot t ≤ pot s + 5)
set_option maxHeartbeats 16000000 in
theorem list_any {L : S → Int × S} {o : Nat} {bd : Int} (hL : Lst L) (HL : LCon L n p g cap all o bd) (h : PM W n K p g cap all nv s) (ho : o ≤ s.opn + 1) (ho2 : s.opn ≤ 800) (hp : pot s + 120 ≤ bd ∧ bd ≤ 60000) :
    Calls Try.prog 24 #[.pointer (some ⟨p, 0, none⟩)] W (NodePost W n K p g cap all nv (list1 L s)) := by
  have HBR0 := Lib.hid (breaks_any h)
  have l5 := h.x.facts.2.2.2.2.1
  obtain ⟨R, hR⟩ : ∃ R, list1 L s = R := ⟨_, rfl⟩
  rw [hR]
  unfold list1 at hR
  dsimp only at hR
  have i1 := breaks_st s n h.x.inv
  obtain ⟨t1, ht1⟩ : ∃ t1, s.breaks = t1 := ⟨_, rfl⟩
  rw [ht1] at HBR0 hR i1
  obtain ⟨r, hr⟩ : ∃ r, itemsG L t1.ts.length [] false t1 = r := ⟨_, rfl⟩
  rw [hr] at hR
  have HR0 := Lib.hid hr
  have HV := Lib.hid hR
  have hsz : t1.ts.length ≤ 5000 := by have := i1.2.1.suf.length_le; omega
  have HOT := Lib.hid (show t1.opn = s.opn ∧ pot t1 ≤ pot s from ⟨by have := i1.2.2.1; omega, by have := i1.2.2.2; omega⟩)
  have HIM := Lib.hid (fun (t : S) (h1 : o ≤ t.opn + 1) (h2 : t.opn ≤ 800) (h3 : pot t + 110 ≤ bd ∧ bd ≤ 60000) (w : World) (K : Nat → Prop) (nv : Value) (h : PM w n K p g cap all nv t) => item_any hL HL h h1 h2 h3)
  have HIS := Lib.hid (fun (t : S) => item_st hL t)
  have HB3 := Lib.hid (⟨ho, ho2, hp⟩ : _ ∧ _ ∧ _)
  have H0 := Lib.hid (KR.start h)
  have HSM := Lib.hid (fun (t : S) (i : Int) (h : ((backed t i).2.seps (t.is [38])).1 = true) => seps_more t i h)
  clear hR ht1 hr i1 h hL HL ho ho2 hp
  go_enter Try.func24, Try.ntmps24
  go_wp2_with (first | (go_at_call 22; (with_reducible refine HBR0.out.mono ?_); rintro e w1 ⟨rfl, hP, hF⟩; have H1 := Lib.hid (H0.out.call hP hF); clear hP hF))
  go_loopw [3, 4, 5, 6, 7] (fun iv bv mv _ _ wr => liRel W n K p g cap all nv L s r iv bv mv wr) (fun _ _ mv _ _ wr => liMeas mv (leftOf wr p))
  case atStart => exact ⟨[], false, true, t1, _, _, _, rfl, rfl, H1.out, by simp; omega, fun _ => ⟨HR0.out, Nat.le_refl _, HOT.out.1, HOT.out.2, by simp; omega⟩, fun h => by cases h⟩
  case round =>
    obtain ⟨l, b, mo, t, nvt, Kt, m, rfl, rfl, hK, hlen, hmt, hmf⟩ := hrel
    clear H1 HR0 HOT HBR0
    have HK := Lib.hid hK
    have HML := Lib.hid hK.pm.left
    have inv := hK.pm.x.inv
    cases mo with
    | true =>
      obtain ⟨hr, hm, hopn, hpot, hlen6⟩ := hmt rfl
      clear hmf hmt
      have hpos := inv.good.ne
      obtain ⟨m, rfl⟩ : ∃ m', m = m' + 1 := ⟨m - 1, by omega⟩
      rw [itemsG] at hr
      try dsimp only at hr
      have HI := Lib.hid (HIM.out t (by have := HB3.out.1; omega) (by have := HB3.out.2.1; omega) (by have := HB3.out.2.2; omega))
      have i2 := HIS.out t n inv
      obtain ⟨q, hq⟩ : ∃ q, item L t = q := ⟨_, rfl⟩
      rw [hq] at HI hr i2
      have HTA := Lib.hid (fun (w : World) (K : Nat → Prop) (nv : Value) (h : PM w n K p g cap all nv q.2) => takes_any h ⟨#[38]⟩ [38] rfl (by decide))
      have hqt : q.2.ts.length ≤ t.ts.length := i2.2.1.suf.length_le
      have hqp : pot q.2 + 1 ≤ 100000 := by have := i2.2.2.2; have := HB3.out.2.2; omega
      have HQP := Lib.hid hqp
      have hqo : q.2.opn = s.opn := by have := i2.2.2.1; omega
      have HMO := HSM.out q.2 q.1
      cases hb : q.2.is [38] with
      | true =>
        have hbk : backed q.2 q.1 = q.2.adv.add (nd 7 [q.1]) := by unfold backed; rw [if_pos hb]
        rw [hb, hbk] at hr HMO
        have hmay : q.2.may [38] = q.2.adv := by unfold S.may; rw [if_pos hb]
        rw [hb, hmay] at HTA
        have hse : (q.2.adv.add (nd 7 [q.1])).2.seps true = (true, (q.2.adv.add (nd 7 [q.1])).2) := rfl
        rw [hse] at hr HMO
        have ja := adv_is (by decide) hb n i2.1
        have hap : pot q.2.adv + 1 ≤ 100000 := by have := ja.2.2.2; omega
        have HAP := Lib.hid hap
        obtain ⟨u, hu⟩ : ∃ u, q.2.adv.add (nd 7 [q.1]) = u := ⟨_, rfl⟩
        rw [hu] at hr HMO
        have HU := Lib.hid hu
        have hmo := HMO rfl n i2.1
        try dsimp only at hmo
        clear HMO hse hbk hmay ja hap
        have hp2 : u.2.ts.length + 1 ≤ q.2.ts.length := by
          have e : u.2.ts = q.2.ts.tail := by rw [← HU.out]; rfl
          rw [e, List.length_tail]
          have := i2.1.good.ne
          omega
        have i5 := breaks_st u.2 n hmo.1
        have HBK := Lib.hid (fun (w : World) (K : Nat → Prop) (nv : Value) (h : PM w n K p g cap all nv u.2) => breaks_any h)
        obtain ⟨v, hv⟩ : ∃ v, u.2.breaks = v := ⟨_, rfl⟩
        rw [hv] at hr HBK i5
        have hvs : v.ts.length + 1 ≤ t.ts.length := by have := i5.2.1.suf.length_le; omega
        have hvo : v.opn = s.opn := by have := i5.2.2.1; have := hmo.2.2.1; omega
        have hvp : pot v ≤ pot s := by have h1 := i5.2.2.2; have h2 := hmo.2.2.2; have h3 := i2.2.2.2; omega
        have HBI := Lib.hid (fun (w : World) (K : Nat → Prop) (nv : Value) (h : PM w n K p g cap all nv v) => bItem_any h)
        cases hbi : bItem v.hd with
        | true =>
          rw [hbi] at hr HBI
          simp only [Bool.and_self, Bool.and_true, Bool.and_false, Bool.false_eq_true, if_true, if_false] at hr
          have HV2 := Lib.hid hr
          have HF3 := Lib.hid (⟨hvs, hvo, hvp⟩ : _ ∧ _ ∧ _)
          clear hr hbi hvs hvo hvp hK inv hopn hpot i2 hq hb hv hqo hqp i5 hmo hu
          go_wp2_with (first | (go_at_call 41; (with_reducible refine (HI.out _ _ _ HK.out.pm).mono ?_); rintro e w2 ⟨rfl, nv2, K2, hP, hG⟩; have H2 := Lib.hid (HK.out.node hP hG); clear hP hG) | (go_at_call 37; (with_reducible refine (HTA.out _ _ _ H2.out.pm).mono ?_); rintro e w3 ⟨rfl, hP, hF⟩; have H3 := Lib.hid (H2.out.call hP hF); clear hP hF HTA) | (go_at_call 42; (with_reducible refine (add_kids H3.out.pm.alc 7 (ints_new1 w3 q.1) HAP.out).mono ?_); rintro e w4 ⟨rfl, nv4, hP, hG⟩; rw [HU.out] at hP; have H4 := Lib.hid ((H3.out.al (.cells #[.int .i64 q.1] 3)).add hP hG (new_fresh H3.out.go.fr.size) (fun k e e2 => by have e' : some w3.heap.size = some k := e; cases e'; have := (ownz_type H3.out.row.1 e2).2.1; omega)); clear hP hG) | (at_builtin; have q5 := H4.out.row; refine wpList_int rfl _ _ rfl l (q.2.adv.add (nd 7 [q.1])).1 rfl rfl rfl q5 (by omega) ?_; intro g5 c5 w5 hr5 hat5 hF5; have H5 := Lib.hid (H4.out.app hF5 hr5 hat5); clear hr5 hat5 hF5 q5) | (go_at_call 22; (with_reducible refine (HBK.out _ _ _ H5.out.pm).mono ?_); rintro e w8 ⟨rfl, hP, hF⟩; have H8 := Lib.hid (H5.out.call hP hF); clear hP hF) | (go_at_call 23; (with_reducible refine (HBI.out _ _ _ H8.out.pm).mono ?_); rintro e w9 ⟨rfl, hF⟩; have H9 := Lib.hid (H8.out.call0 hF); clear hF))
          rw [show (q.2.adv.add (nd 7 [q.1])).1 = u.1 by rw [HU.out]] at H9
          refine ⟨⟨l ++ [u.1], true, true, v, _, _, m, rfl, rfl, H9.out, by rw [List.length_append]; simp; have := HF3.out.1; omega, fun _ => ⟨HV2.out, by have := HF3.out.1; omega, HF3.out.2.1, HF3.out.2.2, by rw [List.length_append]; simp; have := HF3.out.1; omega⟩, (fun h => by cases h)⟩, ?_⟩
          show leftOf w9 p + 1 < leftOf wr p + 1
          rw [H9.out.pm.left, HML.out]
          have := HF3.out.1
          omega
        | false =>
          rw [hbi] at hr HBI
          simp only [Bool.and_self, Bool.and_true, Bool.and_false, Bool.false_eq_true, if_true, if_false] at hr
          have HV2 := Lib.hid hr
          have HF3 := Lib.hid (⟨hvs, hvo, hvp⟩ : _ ∧ _ ∧ _)
          clear hr hbi hvs hvo hvp hK inv hopn hpot i2 hq hb hv hqo hqp i5 hmo hu
          go_wp2_with (first | (go_at_call 41; (with_reducible refine (HI.out _ _ _ HK.out.pm).mono ?_); rintro e w2 ⟨rfl, nv2, K2, hP, hG⟩; have H2 := Lib.hid (HK.out.node hP hG); clear hP hG) | (go_at_call 37; (with_reducible refine (HTA.out _ _ _ H2.out.pm).mono ?_); rintro e w3 ⟨rfl, hP, hF⟩; have H3 := Lib.hid (H2.out.call hP hF); clear hP hF HTA) | (go_at_call 42; (with_reducible refine (add_kids H3.out.pm.alc 7 (ints_new1 w3 q.1) HAP.out).mono ?_); rintro e w4 ⟨rfl, nv4, hP, hG⟩; rw [HU.out] at hP; have H4 := Lib.hid ((H3.out.al (.cells #[.int .i64 q.1] 3)).add hP hG (new_fresh H3.out.go.fr.size) (fun k e e2 => by have e' : some w3.heap.size = some k := e; cases e'; have := (ownz_type H3.out.row.1 e2).2.1; omega)); clear hP hG) | (at_builtin; have q5 := H4.out.row; refine wpList_int rfl _ _ rfl l (q.2.adv.add (nd 7 [q.1])).1 rfl rfl rfl q5 (by omega) ?_; intro g5 c5 w5 hr5 hat5 hF5; have H5 := Lib.hid (H4.out.app hF5 hr5 hat5); clear hr5 hat5 hF5 q5) | (go_at_call 22; (with_reducible refine (HBK.out _ _ _ H5.out.pm).mono ?_); rintro e w8 ⟨rfl, hP, hF⟩; have H8 := Lib.hid (H5.out.call hP hF); clear hP hF) | (go_at_call 23; (with_reducible refine (HBI.out _ _ _ H8.out.pm).mono ?_); rintro e w9 ⟨rfl, hF⟩; have H9 := Lib.hid (H8.out.call0 hF); clear hF))
          rw [show (q.2.adv.add (nd 7 [q.1])).1 = u.1 by rw [HU.out]] at H9
          refine ⟨⟨l ++ [u.1], true, false, v, _, _, m, rfl, rfl, H9.out, by rw [List.length_append]; simp; have := HF3.out.1; omega, (fun h => by cases h), fun _ => ⟨HV2.out, by simp, by have := HF3.out.2.2; omega⟩⟩, ?_⟩
          show 0 < leftOf wr p + 1
          omega
      | false =>
        have hbk : backed q.2 q.1 = (q.1, q.2) := by unfold backed; rw [if_neg (by rw [hb]; decide)]
        rw [hb, hbk] at hr HMO
        have hmay : q.2.may [38] = q.2 := by unfold S.may; rw [if_neg (by rw [hb]; decide)]
        rw [hb, hmay] at HTA
        dsimp only at hr HMO
        have HT1 := Lib.hid (fun (w : World) (K : Nat → Prop) (nv : Value) (h : PM w n K p g cap all nv q.2) => takes_any h ⟨#[59]⟩ [59] rfl (by decide))
        cases hs1 : q.2.is [59] with
        | true =>
          have hse : q.2.seps false = (true, q.2.adv) := by unfold S.seps; rw [if_neg (by decide), if_pos hs1]
          rw [hse] at hr HMO
          have hmay1 : q.2.may [59] = q.2.adv := by unfold S.may; rw [if_pos hs1]
          rw [hs1, hmay1] at HT1
          have hmo := HMO rfl n i2.1
          try dsimp only at hmo
          clear HMO hse hbk hmay hmay1
          have hp2 : q.2.adv.ts.length + 1 ≤ q.2.ts.length := by
            show q.2.ts.tail.length + 1 ≤ _
            rw [List.length_tail]
            have := i2.1.good.ne
            omega
          have i5 := breaks_st q.2.adv n hmo.1
          have HBK := Lib.hid (fun (w : World) (K : Nat → Prop) (nv : Value) (h : PM w n K p g cap all nv q.2.adv) => breaks_any h)
          obtain ⟨v, hv⟩ : ∃ v, q.2.adv.breaks = v := ⟨_, rfl⟩
          rw [hv] at hr HBK i5
          have hvs : v.ts.length + 1 ≤ t.ts.length := by have := i5.2.1.suf.length_le; omega
          have hvo : v.opn = s.opn := by have := i5.2.2.1; have := hmo.2.2.1; omega
          have hvp : pot v ≤ pot s := by have h1 := i5.2.2.2; have h2 := hmo.2.2.2; have h3 := i2.2.2.2; omega
          have HBI := Lib.hid (fun (w : World) (K : Nat → Prop) (nv : Value) (h : PM w n K p g cap all nv v) => bItem_any h)
          cases hbi : bItem v.hd with
          | true =>
            rw [hbi] at hr HBI
            simp only [Bool.and_self, Bool.and_true, Bool.and_false, Bool.false_eq_true, if_true, if_false] at hr
            have HV2 := Lib.hid hr
            have HF3 := Lib.hid (⟨hvs, hvo, hvp⟩ : _ ∧ _ ∧ _)
            clear hr hbi hvs hvo hvp hK inv hopn hpot i2 hq hb hv hqo hqp i5 hmo hs1
            go_wp2_with (first | (go_at_call 41; (with_reducible refine (HI.out _ _ _ HK.out.pm).mono ?_); rintro e w2 ⟨rfl, nv2, K2, hP, hG⟩; have H2 := Lib.hid (HK.out.node hP hG); clear hP hG) | (go_at_call 37; (with_reducible refine (HTA.out _ _ _ H2.out.pm).mono ?_); rintro e w3 ⟨rfl, hP, hF⟩; have H3 := Lib.hid (H2.out.call hP hF); clear hP hF HTA) | (at_builtin; have q5 := H3.out.row; refine wpList_int rfl _ _ rfl l q.1 rfl rfl rfl q5 (by omega) ?_; intro g5 c5 w5 hr5 hat5 hF5; have H5 := Lib.hid (H3.out.app hF5 hr5 hat5); clear hr5 hat5 hF5 q5) | (go_at_call 37; (with_reducible refine (HT1.out _ _ _ H5.out.pm).mono ?_); rintro e w6 ⟨rfl, hP, hF⟩; have H6 := Lib.hid (H5.out.call hP hF); clear hP hF HT1) | (go_at_call 22; (with_reducible refine (HBK.out _ _ _ H6.out.pm).mono ?_); rintro e w8 ⟨rfl, hP, hF⟩; have H8 := Lib.hid (H6.out.call hP hF); clear hP hF) | (go_at_call 23; (with_reducible refine (HBI.out _ _ _ H8.out.pm).mono ?_); rintro e w9 ⟨rfl, hF⟩; have H9 := Lib.hid (H8.out.call0 hF); clear hF))
            refine ⟨⟨l ++ [q.1], false, true, v, _, _, m, rfl, rfl, H9.out, by rw [List.length_append]; simp; have := HF3.out.1; omega, fun _ => ⟨HV2.out, by have := HF3.out.1; omega, HF3.out.2.1, HF3.out.2.2, by rw [List.length_append]; simp; have := HF3.out.1; omega⟩, (fun h => by cases h)⟩, ?_⟩
            show leftOf w9 p + 1 < leftOf wr p + 1
            rw [H9.out.pm.left, HML.out]
            have := HF3.out.1
            omega
          | false =>
            rw [hbi] at hr HBI
            simp only [Bool.and_self, Bool.and_true, Bool.and_false, Bool.false_eq_true, if_true, if_false] at hr
            have HV2 := Lib.hid hr
            have HF3 := Lib.hid (⟨hvs, hvo, hvp⟩ : _ ∧ _ ∧ _)
            clear hr hbi hvs hvo hvp hK inv hopn hpot i2 hq hb hv hqo hqp i5 hmo hs1
            go_wp2_with (first | (go_at_call 41; (with_reducible refine (HI.out _ _ _ HK.out.pm).mono ?_); rintro e w2 ⟨rfl, nv2, K2, hP, hG⟩; have H2 := Lib.hid (HK.out.node hP hG); clear hP hG) | (go_at_call 37; (with_reducible refine (HTA.out _ _ _ H2.out.pm).mono ?_); rintro e w3 ⟨rfl, hP, hF⟩; have H3 := Lib.hid (H2.out.call hP hF); clear hP hF HTA) | (at_builtin; have q5 := H3.out.row; refine wpList_int rfl _ _ rfl l q.1 rfl rfl rfl q5 (by omega) ?_; intro g5 c5 w5 hr5 hat5 hF5; have H5 := Lib.hid (H3.out.app hF5 hr5 hat5); clear hr5 hat5 hF5 q5) | (go_at_call 37; (with_reducible refine (HT1.out _ _ _ H5.out.pm).mono ?_); rintro e w6 ⟨rfl, hP, hF⟩; have H6 := Lib.hid (H5.out.call hP hF); clear hP hF HT1) | (go_at_call 22; (with_reducible refine (HBK.out _ _ _ H6.out.pm).mono ?_); rintro e w8 ⟨rfl, hP, hF⟩; have H8 := Lib.hid (H6.out.call hP hF); clear hP hF) | (go_at_call 23; (with_reducible refine (HBI.out _ _ _ H8.out.pm).mono ?_); rintro e w9 ⟨rfl, hF⟩; have H9 := Lib.hid (H8.out.call0 hF); clear hF))
            refine ⟨⟨l ++ [q.1], false, false, v, _, _, m, rfl, rfl, H9.out, by rw [List.length_append]; simp; have := HF3.out.1; omega, (fun h => by cases h), fun _ => ⟨HV2.out, by simp, by have := HF3.out.2.2; omega⟩⟩, ?_⟩
            show 0 < leftOf wr p + 1
            omega
        | false =>
          have hmay1 : q.2.may [59] = q.2 := by unfold S.may; rw [if_neg (by rw [hs1]; decide)]
          rw [hs1, hmay1] at HT1
          have HT2 := Lib.hid (fun (w : World) (K : Nat → Prop) (nv : Value) (h : PM w n K p g cap all nv q.2) => takes_any h ⟨#[10]⟩ [10] rfl (by decide))
          cases hs2 : q.2.is [10] with
          | true =>
            have hse : q.2.seps false = (true, q.2.adv) := by unfold S.seps; rw [if_neg (by decide), if_neg (by rw [hs1]; decide), if_pos hs2]
            rw [hse] at hr HMO
            have hmay2 : q.2.may [10] = q.2.adv := by unfold S.may; rw [if_pos hs2]
            rw [hs2, hmay2] at HT2
            have hmo := HMO rfl n i2.1
            try dsimp only at hmo
            clear HMO hse hbk hmay hmay1 hmay2
            have hp2 : q.2.adv.ts.length + 1 ≤ q.2.ts.length := by
              show q.2.ts.tail.length + 1 ≤ _
              rw [List.length_tail]
              have := i2.1.good.ne
              omega
            have i5 := breaks_st q.2.adv n hmo.1
            have HBK := Lib.hid (fun (w : World) (K : Nat → Prop) (nv : Value) (h : PM w n K p g cap all nv q.2.adv) => breaks_any h)
            obtain ⟨v, hv⟩ : ∃ v, q.2.adv.breaks = v := ⟨_, rfl⟩
            rw [hv] at hr HBK i5
            have hvs : v.ts.length + 1 ≤ t.ts.length := by have := i5.2.1.suf.length_le; omega
            have hvo : v.opn = s.opn := by have := i5.2.2.1; have := hmo.2.2.1; omega
            have hvp : pot v ≤ pot s := by have h1 := i5.2.2.2; have h2 := hmo.2.2.2; have h3 := i2.2.2.2; omega
            have HBI := Lib.hid (fun (w : World) (K : Nat → Prop) (nv : Value) (h : PM w n K p g cap all nv v) => bItem_any h)
            cases hbi : bItem v.hd with
            | true =>
              rw [hbi] at hr HBI
              simp only [Bool.and_self, Bool.and_true, Bool.and_false, Bool.false_eq_true, if_true, if_false] at hr
              have HV2 := Lib.hid hr
              have HF3 := Lib.hid (⟨hvs, hvo, hvp⟩ : _ ∧ _ ∧ _)
              clear hr hbi hvs hvo hvp hK inv hopn hpot i2 hq hb hv hqo hqp i5 hmo hs1 hs2
              go_wp2_with (first | (go_at_call 41; (with_reducible refine (HI.out _ _ _ HK.out.pm).mono ?_); rintro e w2 ⟨rfl, nv2, K2, hP, hG⟩; have H2 := Lib.hid (HK.out.node hP hG); clear hP hG) | (go_at_call 37; (with_reducible refine (HTA.out _ _ _ H2.out.pm).mono ?_); rintro e w3 ⟨rfl, hP, hF⟩; have H3 := Lib.hid (H2.out.call hP hF); clear hP hF HTA) | (at_builtin; have q5 := H3.out.row; refine wpList_int rfl _ _ rfl l q.1 rfl rfl rfl q5 (by omega) ?_; intro g5 c5 w5 hr5 hat5 hF5; have H5 := Lib.hid (H3.out.app hF5 hr5 hat5); clear hr5 hat5 hF5 q5) | (go_at_call 37; (with_reducible refine (HT1.out _ _ _ H5.out.pm).mono ?_); rintro e w6 ⟨rfl, hP, hF⟩; have H6 := Lib.hid (H5.out.call hP hF); clear hP hF HT1) | (go_at_call 37; (with_reducible refine (HT2.out _ _ _ H6.out.pm).mono ?_); rintro e w7 ⟨rfl, hP, hF⟩; have H7 := Lib.hid (H6.out.call hP hF); clear hP hF HT2) | (go_at_call 22; (with_reducible refine (HBK.out _ _ _ H7.out.pm).mono ?_); rintro e w8 ⟨rfl, hP, hF⟩; have H8 := Lib.hid (H7.out.call hP hF); clear hP hF) | (go_at_call 23; (with_reducible refine (HBI.out _ _ _ H8.out.pm).mono ?_); rintro e w9 ⟨rfl, hF⟩; have H9 := Lib.hid (H8.out.call0 hF); clear hF))
              refine ⟨⟨l ++ [q.1], false, true, v, _, _, m, rfl, rfl, H9.out, by rw [List.length_append]; simp; have := HF3.out.1; omega, fun _ => ⟨HV2.out, by have := HF3.out.1; omega, HF3.out.2.1, HF3.out.2.2, by rw [List.length_append]; simp; have := HF3.out.1; omega⟩, (fun h => by cases h)⟩, ?_⟩
              show leftOf w9 p + 1 < leftOf wr p + 1
              rw [H9.out.pm.left, HML.out]
              have := HF3.out.1
              omega
            | false =>
              rw [hbi] at hr HBI
              simp only [Bool.and_self, Bool.and_true, Bool.and_false, Bool.false_eq_true, if_true, if_false] at hr
              have HV2 := Lib.hid hr
              have HF3 := Lib.hid (⟨hvs, hvo, hvp⟩ : _ ∧ _ ∧ _)
              clear hr hbi hvs hvo hvp hK inv hopn hpot i2 hq hb hv hqo hqp i5 hmo hs1 hs2
              go_wp2_with (first | (go_at_call 41; (with_reducible refine (HI.out _ _ _ HK.out.pm).mono ?_); rintro e w2 ⟨rfl, nv2, K2, hP, hG⟩; have H2 := Lib.hid (HK.out.node hP hG); clear hP hG) | (go_at_call 37; (with_reducible refine (HTA.out _ _ _ H2.out.pm).mono ?_); rintro e w3 ⟨rfl, hP, hF⟩; have H3 := Lib.hid (H2.out.call hP hF); clear hP hF HTA) | (at_builtin; have q5 := H3.out.row; refine wpList_int rfl _ _ rfl l q.1 rfl rfl rfl q5 (by omega) ?_; intro g5 c5 w5 hr5 hat5 hF5; have H5 := Lib.hid (H3.out.app hF5 hr5 hat5); clear hr5 hat5 hF5 q5) | (go_at_call 37; (with_reducible refine (HT1.out _ _ _ H5.out.pm).mono ?_); rintro e w6 ⟨rfl, hP, hF⟩; have H6 := Lib.hid (H5.out.call hP hF); clear hP hF HT1) | (go_at_call 37; (with_reducible refine (HT2.out _ _ _ H6.out.pm).mono ?_); rintro e w7 ⟨rfl, hP, hF⟩; have H7 := Lib.hid (H6.out.call hP hF); clear hP hF HT2) | (go_at_call 22; (with_reducible refine (HBK.out _ _ _ H7.out.pm).mono ?_); rintro e w8 ⟨rfl, hP, hF⟩; have H8 := Lib.hid (H7.out.call hP hF); clear hP hF) | (go_at_call 23; (with_reducible refine (HBI.out _ _ _ H8.out.pm).mono ?_); rintro e w9 ⟨rfl, hF⟩; have H9 := Lib.hid (H8.out.call0 hF); clear hF))
              refine ⟨⟨l ++ [q.1], false, false, v, _, _, m, rfl, rfl, H9.out, by rw [List.length_append]; simp; have := HF3.out.1; omega, (fun h => by cases h), fun _ => ⟨HV2.out, by simp, by have := HF3.out.2.2; omega⟩⟩, ?_⟩
              show 0 < leftOf wr p + 1
              omega
          | false =>
            have hse : q.2.seps false = (false, q.2) := by unfold S.seps; rw [if_neg (by decide), if_neg (by rw [hs1]; decide), if_neg (by rw [hs2]; decide)]
            rw [hse] at hr
            have hmay2 : q.2.may [10] = q.2 := by unfold S.may; rw [if_neg (by rw [hs2]; decide)]
            rw [hs2, hmay2] at HT2
            clear HMO hse hbk hmay hmay1 hmay2
            have i5 := breaks_st q.2 n i2.1
            have HBK := Lib.hid (fun (w : World) (K : Nat → Prop) (nv : Value) (h : PM w n K p g cap all nv q.2) => breaks_any h)
            obtain ⟨v, hv⟩ : ∃ v, q.2.breaks = v := ⟨_, rfl⟩
            rw [hv] at hr HBK i5
            simp only [Bool.false_and, Bool.false_eq_true, if_false] at hr
            have hvs : v.ts.length ≤ t.ts.length := by have := i5.2.1.suf.length_le; omega
            have hvp : pot v ≤ pot s + 5 := by have h1 := i5.2.2.2; have h3 := i2.2.2.2; omega
            have HV2 := Lib.hid hr
            have HF3 := Lib.hid (⟨hvs, hvp⟩ : _ ∧ _)
            clear hr hvs hvp hK inv hopn hpot i2 hq hb hv hqo hqp i5 hs1 hs2
            go_wp2_with (first | (go_at_call 41; (with_reducible refine (HI.out _ _ _ HK.out.pm).mono ?_); rintro e w2 ⟨rfl, nv2, K2, hP, hG⟩; have H2 := Lib.hid (HK.out.node hP hG); clear hP hG) | (go_at_call 37; (with_reducible refine (HTA.out _ _ _ H2.out.pm).mono ?_); rintro e w3 ⟨rfl, hP, hF⟩; have H3 := Lib.hid (H2.out.call hP hF); clear hP hF HTA) | (at_builtin; have q5 := H3.out.row; refine wpList_int rfl _ _ rfl l q.1 rfl rfl rfl q5 (by omega) ?_; intro g5 c5 w5 hr5 hat5 hF5; have H5 := Lib.hid (H3.out.app hF5 hr5 hat5); clear hr5 hat5 hF5 q5) | (go_at_call 37; (with_reducible refine (HT1.out _ _ _ H5.out.pm).mono ?_); rintro e w6 ⟨rfl, hP, hF⟩; have H6 := Lib.hid (H5.out.call hP hF); clear hP hF HT1) | (go_at_call 37; (with_reducible refine (HT2.out _ _ _ H6.out.pm).mono ?_); rintro e w7 ⟨rfl, hP, hF⟩; have H7 := Lib.hid (H6.out.call hP hF); clear hP hF HT2) | (go_at_call 22; (with_reducible refine (HBK.out _ _ _ H7.out.pm).mono ?_); rintro e w8 ⟨rfl, hP, hF⟩; have H8 := Lib.hid (H7.out.call hP hF); clear hP hF))
            refine ⟨⟨l ++ [q.1], false, false, v, _, _, m, rfl, rfl, H8.out, by rw [List.length_append]; simp; have := HF3.out.1; omega, (fun h => by cases h), fun _ => ⟨HV2.out, by simp, HF3.out.2⟩⟩, ?_⟩
            show 0 < leftOf wr p + 1
            omega
    | false =>
      obtain ⟨hr, hl0, hfp⟩ := hmf rfl
      subst hr
      dsimp only at HV
      obtain ⟨cv0, cc0, hcv, -, -, hcg⟩ := ownz_form hK.row.1
      obtain ⟨gb, rfl⟩ := hcg hl0
      subst hcv
      obtain ⟨c1, r1, hcr⟩ : ∃ c1 r1, l = c1 :: r1 := by
        cases l with
        | nil => simp at hl0
        | cons a r => exact ⟨a, r, rfl⟩
      have HC1 := Lib.hid (show l.headD 0 = c1 by rw [hcr]; rfl)
      have k1 := ints_at hK.row 0 c1 (by rw [hcr]; rfl)
      have hpt : pot t + 1 ≤ 100000 := by have := HB3.out.2.2; omega
      clear hmt hmf hK inv hcr hcg hfp
      by_cases h1 : l.length = 1
      · have h1' : ((l.length : Int) == 1) = true := by rw [beq_iff_eq]; omega
        cases b with
        | false =>
          have HE := Lib.hid (show R = (c1, t) by rw [← HV.out]; unfold S.seqs; rw [if_pos (by rw [h1]; rfl), HC1.out])
          clear h1
          go_wp2
          go_ret
          rw [HE.out]
          exact ⟨rfl, _, _, HK.out.pm, HK.out.go⟩
        | true =>
          have HE := Lib.hid (show R = t.add (nd 6 l) by rw [← HV.out]; unfold S.seqs; rw [if_neg (by simp)])
          clear h1
          go_wp2_with (first | (go_at_call 42; (with_reducible refine (add_kids HK.out.pm 6 HK.out.row hpt).mono ?_); rintro e w4 ⟨rfl, nv4, hP, hG⟩; have HP4 := Lib.hid hP; have HG4 := Lib.hid (HK.out.go.addRow (v := .slice (some ⟨gb, 0, none⟩) l.length cc0) hG HK.out.fr); clear hP hG))
          go_ret
          rw [HE.out]
          exact ⟨rfl, _, _, HP4.out, HG4.out⟩
      · have h1' : ((l.length : Int) == 1) = false := by rw [beq_eq_false_iff_ne]; omega
        have HE := Lib.hid (show R = t.add (nd 6 l) by rw [← HV.out]; unfold S.seqs; rw [if_neg (by simp [h1])])
        clear h1
        go_wp2_with (first | (go_at_call 42; (with_reducible refine (add_kids HK.out.pm 6 HK.out.row hpt).mono ?_); rintro e w4 ⟨rfl, nv4, hP, hG⟩; have HP4 := Lib.hid hP; have HG4 := Lib.hid (HK.out.go.addRow (v := .slice (some ⟨gb, 0, none⟩) l.length cc0) hG HK.out.fr); clear hP hG))
        go_ret
        rw [HE.out]
        exact ⟨rfl, _, _, HP4.out, HG4.out⟩
end
end Go.Proofs.Ytoahgblgchmclaa
