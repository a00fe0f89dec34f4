/- Pipes and items. -/
import Derived.Test.YtoahgblgchmclaaPZ
namespace Go.Proofs.Ytoahgblgchmclaa
open Go.RowKit
set_option linter.unusedVariables false
set_option linter.unusedSimpArgs false
section
variable {W w w' : World} {n p g cap : Nat} {K Kt : Nat → Prop} {all : List Tk} {nv nvt : Value} {s t : S}
theorem ints_at {b len cp : Nat} {l : List Int} (h : Ints w K (.slice (some ⟨b, 0, none⟩) len cp) l) (i : Nat) (t : Int) (ht : l[i]? = some t) : w.cell? ⟨b, i, none⟩ = some (.int .i64 t) := by
  obtain ⟨_, _, e, _⟩ := ownz_form h.1
  injection e with e1 e2 e3
  subst e2
  have h1 : w.ownsRow 0 3 1 (.slice (some ⟨b, 0, none⟩) l.length cp) l.length (l.map (Value.int .i64)) := h.1
  have hl := (List.getElem?_eq_some_iff.1 ht).1
  rw [h1.cellAt i (by omega), List.getElem?_map, ht]
  rfl
theorem Go.addRow {p : Nat} {nv nv' nv'' v : Value} {K K' : Nat → Prop} {W W' W'' : World} (h : Go p nv nv' K K' W W') (k : GoA p nv' nv'' W' W'') (hv : ∀ k, own1 v k → W.heap.size ≤ k) : Go p nv nv'' K (fun k => K' k ∨ own1 v k) W W'' :=
  h.add k fun i e => by
    rcases e with e | e
    · exact h.kk i e
    · exact .inr (hv i e)
theorem ints_new1 (w : World) (i : Int) : Ints (w.alloc (.cells #[.int .i64 i] 3)) (own1 (.slice (some ⟨w.heap.size, 0, none⟩) 1 1)) (.slice (some ⟨w.heap.size, 0, none⟩) 1 1) [i] := ints_new w [i] (by simp)
theorem ints_new2 (w : World) (i j : Int) : Ints (w.alloc (.cells #[.int .i64 i, .int .i64 j] 3)) (own1 (.slice (some ⟨w.heap.size, 0, none⟩) 2 2)) (.slice (some ⟨w.heap.size, 0, none⟩) 2 2) [i, j] := ints_new w [i, j] (by simp)
theorem new_fresh {W w : World} {n c : Nat} (h : W.heap.size ≤ w.heap.size) : ∀ k, own1 (.slice (some ⟨w.heap.size, 0, none⟩) n c) k → W.heap.size ≤ k := fun k e => by
  have e' : some w.heap.size = some k := e
  cases e'
  exact h
def ppRel (W : World) (n : Nat) (K : Nat → Prop) (p g cap : Nat) (all : List Tk) (nv : Value) (L : S → Int × S) (s : S) (R : List Int × S) (cv : Value) (wr : World) : Prop :=
  ∃ (cs : List Int) (t : S) (nvt : Value) (Kt : Nat → Prop) (m : Nat), KR W n K p g cap all nv wr t nvt Kt cv cs ∧ pipeG L m cs t = R ∧ t.ts.length ≤ m ∧ t.opn = s.opn ∧ pot t ≤ pot s + 2 ∧ 0 < cs.length ∧ cs.length + t.ts.length ≤ 6000
set_option maxHeartbeats 8000000 in
theorem pipe_any {L : S → Int × S} {o : Nat} {bd : Int} (hL : Lst L) (HL : LCon L n p g cap all o bd) (h : PM W n K p g cap all nv s) (ho : o ≤ s.opn + 1) (ho2 : s.opn ≤ 800) (hp : pot s + 100 ≤ bd ∧ bd ≤ 60000) :
    Calls Try.prog 51 #[.pointer (some ⟨p, 0, none⟩)] W (NodePost W n K p g cap all nv (pipe L s)) := by
  have H0 := Lib.hid (KR.start h)
  have HNT := Lib.hid (takes_any h ⟨#[33]⟩ [33] rfl (by decide))
  have l5 := h.x.facts.2.2.2.2.1
  obtain ⟨R, hR⟩ : ∃ R, pipe L s = R := ⟨_, rfl⟩
  rw [hR]
  unfold pipe at hR
  dsimp only at hR
  have i1 := may_st s (t := [33]) (by decide) n h.x.inv
  obtain ⟨t1, ht1⟩ : ∃ t1, s.may [33] = t1 := ⟨_, rfl⟩
  rw [ht1] at HNT hR i1
  have HC1 := Lib.hid (fun (w : World) (K : Nat → Prop) (nv : Value) (h : PM w n K p g cap all nv t1) => command_any hL HL h (by have := i1.2.2.1; omega) (by have := i1.2.2.1; omega) (by have := i1.2.2.2; omega))
  have i2 := command_st hL t1 n i1.1
  obtain ⟨c, hc⟩ : ∃ c, command L t1 = c := ⟨_, rfl⟩
  rw [hc] at HC1 hR i2
  obtain ⟨r, hr⟩ : ∃ r, pipeG L c.2.ts.length [c.1] c.2 = r := ⟨_, rfl⟩
  rw [hr] at hR
  have HR0 := Lib.hid hr
  have hsz : c.2.ts.length ≤ 5000 := by
    have h1 := i1.2.1.suf.length_le
    have h2 := i2.2.1.suf.length_le
    omega
  have HOT := Lib.hid (show c.2.opn = s.opn ∧ pot c.2 ≤ pot s + 2 from ⟨by have := i1.2.2.1; have := i2.2.2.1; omega, by have := i1.2.2.2; have := i2.2.2.2; omega⟩)
  obtain ⟨bb, hb⟩ : ∃ bb, s.is [33] = bb := ⟨_, rfl⟩
  rw [hb] at hR HNT
  have HV := Lib.hid hR
  have HCM := Lib.hid (fun (t : S) (h1 : o ≤ t.opn + 1) (h2 : t.opn ≤ 800) (h3 : pot t + 90 ≤ bd ∧ bd ≤ 60000) (w : World) (K : Nat → Prop) (nv : Value) (h : PM w n K p g cap all nv t) => command_any hL HL h h1 h2 h3)
  have HCS := Lib.hid (fun (t : S) => command_st hL t)
  have HB3 := Lib.hid (⟨ho, ho2, hp⟩ : _ ∧ _ ∧ _)
  clear hR ht1 hc hr i1 i2 hb h hL HL ho ho2 hp
  go_enter Try.func51, Try.ntmps51
  go_wp2_with (first | (go_at_call 37; (with_reducible refine HNT.out.mono ?_); rintro e w1 ⟨rfl, hP, hF⟩; have H1 := Lib.hid (H0.out.call hP hF); clear hP hF) | (go_at_call 59; (with_reducible refine (HC1.out _ _ _ H1.out.pm).mono ?_); rintro e w2 ⟨rfl, nv2, K2, hP, hG⟩; have H2 := Lib.hid (KR.lit1 (i := c.1) hP (H1.out.go.trans hG)); clear hP hG))
  go_loopw [4] (fun cv wr => ppRel W n K p g cap all nv L s r cv wr) (fun _ wr => leftOf wr p)
  case atStart => exact ⟨[c.1], c.2, _, _, _, H2.out, HR0.out, Nat.le_refl _, HOT.out.1, HOT.out.2, by simp, by simp; omega⟩
  case round =>
    obtain ⟨cs, t, nvt, Kt, m, hK, hr, hm, hopn, hpot, hc0, hlen⟩ := hrel
    clear H2 HR0 HOT HC1
    have HK := Lib.hid hK
    have HML := Lib.hid hK.pm.left
    have inv := hK.pm.x.inv
    have hpos := inv.good.ne
    obtain ⟨m, rfl⟩ : ∃ m', m = m' + 1 := ⟨m - 1, by omega⟩
    rw [pipeG] at hr
    have HT := Lib.hid (takes_any hK.pm ⟨#[124]⟩ [124] rfl (by decide))
    cases hb : t.is [124] with
    | true =>
      rw [if_pos hb] at hr
      rw [hb] at HT
      have hmay : t.may [124] = t.adv := by unfold S.may; rw [if_pos hb]
      rw [hmay] at HT
      have j1 := adv_is (by decide) hb n inv
      have HBR := Lib.hid (fun (w : World) (K : Nat → Prop) (nv : Value) (h : PM w n K p g cap all nv t.adv) => breaks_any h)
      have j2 := breaks_st t.adv n j1.1
      obtain ⟨u, hu⟩ : ∃ u, t.adv.breaks = u := ⟨_, rfl⟩
      rw [hu] at HBR hr j2
      have hub : u.opn = s.opn ∧ pot u ≤ pot s := ⟨by have := j1.2.2.1; have := j2.2.2.1; omega, by have := j1.2.2.2; have := j2.2.2.2; omega⟩
      have HCU := Lib.hid (HCM.out u (by have := HB3.out.1; omega) (by have := HB3.out.2.1; omega) (by have := HB3.out.2.2; omega))
      have j3 := HCS.out u n j2.1
      obtain ⟨d, hd⟩ : ∃ d, command L u = d := ⟨_, rfl⟩
      rw [hd] at HCU hr j3
      have HV2 := Lib.hid hr
      have hsz2 : d.2.ts.length + 1 ≤ t.ts.length := by
        have h1 := j2.2.1.suf.length_le
        have h2 := j3.2.1.suf.length_le
        have h3 : t.adv.ts.length = t.ts.length - 1 := List.length_tail
        omega
      have HOT := Lib.hid (show d.2.opn = s.opn ∧ pot d.2 ≤ pot s + 2 from ⟨by have := j3.2.2.1; omega, by have := j3.2.2.2; omega⟩)
      clear hK hr hb hmay inv hopn hpot hu hd j1 j2 j3 hub
      go_wp2_with (first | (go_at_call 37; (with_reducible refine HT.out.mono ?_); rintro e w3 ⟨rfl, hP, hF⟩; have H3 := Lib.hid (HK.out.call hP hF); clear hP hF) | (go_at_call 22; (with_reducible refine (HBR.out _ _ _ H3.out.pm).mono ?_); rintro e w4 ⟨rfl, hP, hF⟩; have H4 := Lib.hid (H3.out.call hP hF); clear hP hF) | (go_at_call 59; (with_reducible refine (HCU.out _ _ _ H4.out.pm).mono ?_); rintro e w5 ⟨rfl, nv5, K5, hP, hG⟩; have H5 := Lib.hid (H4.out.node hP hG); clear hP hG) | (at_builtin; have q5 := H5.out.row; refine wpList_int rfl _ _ rfl cs d.1 rfl rfl rfl q5 (by omega) ?_; intro g6 c6 w6 hr6 hat6 hF6; have H6 := Lib.hid (H5.out.app hF6 hr6 hat6); clear hr6 hat6 hF6))
      refine ⟨⟨_, _, _, _, m, H6.out, HV2.out, by omega, HOT.out.1, HOT.out.2, by simp, by rw [List.length_append]; simp; omega⟩, ?_⟩
      rw [H6.out.pm.left, HML.out]
      omega
    | false =>
      rw [if_neg (by rw [hb]; decide)] at hr
      rw [hb] at HT
      have hmay : t.may [124] = t := by unfold S.may; rw [if_neg (by rw [hb]; decide)]
      rw [hmay] at HT
      subst hr
      obtain ⟨cv0, cc0, hcv, -, -, hcg⟩ := ownz_form hK.row.1
      obtain ⟨gb, rfl⟩ := hcg hc0
      subst hcv
      obtain ⟨c1, r1, hcr⟩ : ∃ c1 r1, cs = c1 :: r1 := by
        cases cs with
        | nil => simp at hc0
        | cons a r => exact ⟨a, r, rfl⟩
      have HC1 := Lib.hid (show cs.headD 0 = c1 by rw [hcr]; rfl)
      have k0 := Lib.hid (fun (w : World) (h : Ints w (own1 (.slice (some ⟨gb, 0, none⟩) cs.length cc0)) (.slice (some ⟨gb, 0, none⟩) cs.length cc0) cs) => ints_at h 0 c1 (by rw [hcr]; rfl))
      have hpt : pot t + 1 ≤ 100000 := by have := HB3.out.2.2; omega
      have hpt2 : pot t + 2 ≤ 100000 := by have := HB3.out.2.2; omega
      clear hK hb hmay inv hopn hpot hcr hcg
      by_cases h1 : 1 < cs.length
      · have h1' : decide ((cs.length : Int) > 1) = true := decide_eq_true (by omega)
        have HW := Lib.hid (show t.whole cs = t.add (nd 3 cs) by unfold S.whole; rw [if_pos h1])
        cases bb with
        | false =>
          have HE := Lib.hid (show R = t.add (nd 3 cs) by rw [← HV.out]; show (t.whole cs).2.notP false (t.whole cs).1 = _; rw [HW.out]; rfl)
          go_wp2_with (first | (go_at_call 37; (with_reducible refine HT.out.mono ?_); rintro e w3 ⟨rfl, hP, hF⟩; have H3 := Lib.hid (HK.out.call hP hF); have k1 := k0.out _ H3.out.row; clear hP hF) | (go_at_call 42; (with_reducible refine (add_kids H3.out.pm 3 H3.out.row hpt).mono ?_); rintro e w4 ⟨rfl, nv4, hP, hG⟩; have HP4 := Lib.hid hP; have HG4 := Lib.hid (H3.out.go.addRow (v := .slice (some ⟨gb, 0, none⟩) cs.length cc0) hG H3.out.fr); clear hP hG k1))
          go_ret
          rw [HE.out]
          exact ⟨rfl, _, _, HP4.out, HG4.out⟩
        | true =>
          have HE := Lib.hid (show R = (t.add (nd 3 cs)).2.add (nd 2 [(t.add (nd 3 cs)).1]) by rw [← HV.out]; show (t.whole cs).2.notP true (t.whole cs).1 = _; rw [HW.out]; rfl)
          have hpt3 : pot (t.add (nd 3 cs)).2 + 1 ≤ 100000 := by have := (add_st t (nd 3 cs) n HK.out.pm.x.inv).2.2.2; omega
          go_wp2_with (first | (go_at_call 37; (with_reducible refine HT.out.mono ?_); rintro e w3 ⟨rfl, hP, hF⟩; have H3 := Lib.hid (HK.out.call hP hF); have k1 := k0.out _ H3.out.row; clear hP hF) | (go_at_call 42; (with_reducible refine (add_kids H3.out.pm 3 H3.out.row hpt).mono ?_); rintro e w4 ⟨rfl, nv4, hP, hG⟩; have HP4 := Lib.hid hP; have HG4 := Lib.hid (H3.out.go.addRow (v := .slice (some ⟨gb, 0, none⟩) cs.length cc0) hG H3.out.fr); clear hP hG k1) | (go_at_call 42; (with_reducible refine (add_kids HP4.out.alc 2 (ints_new1 w4 (t.add (nd 3 cs)).1) hpt3).mono ?_); rintro e w6 ⟨rfl, nv6, hP, hG⟩; have HP6 := Lib.hid hP; have HG6 := Lib.hid ((HG4.out.al (.cells #[.int .i64 (t.add (nd 3 cs)).1] 3)).addRow (v := .slice (some ⟨w4.heap.size, 0, none⟩) 1 1) hG (new_fresh HG4.out.fr.size)); clear hP hG))
          go_ret
          rw [HE.out]
          exact ⟨rfl, _, _, HP6.out, HG6.out⟩
      · have h1' : decide ((cs.length : Int) > 1) = false := decide_eq_false (by omega)
        have HW := Lib.hid (show t.whole cs = (c1, t) by unfold S.whole; rw [if_neg h1, HC1.out])
        cases bb with
        | false =>
          have HE := Lib.hid (show R = (c1, t) by rw [← HV.out]; show (t.whole cs).2.notP false (t.whole cs).1 = _; rw [HW.out]; rfl)
          go_wp2_with (first | (go_at_call 37; (with_reducible refine HT.out.mono ?_); rintro e w3 ⟨rfl, hP, hF⟩; have H3 := Lib.hid (HK.out.call hP hF); have k1 := k0.out _ H3.out.row; clear hP hF))
          go_ret
          rw [HE.out]
          exact ⟨rfl, _, _, H3.out.pm, H3.out.go⟩
        | true =>
          have HE := Lib.hid (show R = t.add (nd 2 [c1]) by rw [← HV.out]; show (t.whole cs).2.notP true (t.whole cs).1 = _; rw [HW.out]; rfl)
          go_wp2_with (first | (go_at_call 37; (with_reducible refine HT.out.mono ?_); rintro e w3 ⟨rfl, hP, hF⟩; have H3 := Lib.hid (HK.out.call hP hF); have k1 := k0.out _ H3.out.row; clear hP hF) | (go_at_call 42; (with_reducible refine (add_kids H3.out.pm.alc 2 (ints_new1 w3 c1) hpt).mono ?_); rintro e w6 ⟨rfl, nv6, hP, hG⟩; have HP6 := Lib.hid hP; have HG6 := Lib.hid ((H3.out.go.al (.cells #[.int .i64 c1] 3)).addRow (v := .slice (some ⟨w3.heap.size, 0, none⟩) 1 1) hG (new_fresh H3.out.go.fr.size)); clear hP hG))
          go_ret
          rw [HE.out]
          exact ⟨rfl, _, _, HP6.out, HG6.out⟩
end
end Go.Proofs.Ytoahgblgchmclaa
