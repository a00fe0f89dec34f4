/- Words and patterns of compounds. -/
import Derived.Test.YtoahgblgchmclaaPT
namespace Go.Proofs.Ytoahgblgchmclaa
open Go.RowKit
set_option linter.unusedVariables false
set_option linter.unusedSimpArgs false
/-- a field of a token that is a value, at a guarded operation. -/
theorem wpList_fieldG {w : World} {ops : Array Oper} {rest : List Oper} {o : Oper} {a : Act} {Q : Exit → Act → World → Prop} (hw : Region.wanted o (yielded ops a.tmps) = true) (x : Operand) (f : Nat) (ho : o.op = .field 40 x f) (c0 c1 c2 : Value)
    (hx : a.eval x = .agg #[c0, c1, c2]) (v : Value) (hv : #[c0, c1, c2][f]? = some v) (h : wpList Try.prog ops Q rest (a.put o.dst v) w) : wpList Try.prog ops Q (o :: rest) a w := by
  refine wpList_step fun K hK => ?_
  rw [if_pos hw]
  obtain ⟨h0, h1, h2⟩ := field_tok w c0 c1 c2
  have hr : (Instr.field 40 (.agg #[c0, c1, c2]) f).run Try.prog w = .ok v w := by
    match f, hv with
    | 0, hv => cases hv; exact h0
    | 1, hv => cases hv; exact h1
    | 2, hv => cases hv; exact h2
  unfold Oper.wp
  simp [execOp, ho, hx, hr, Result.andThen]
  exact hK _ _ h
section
variable {W w w' : World} {n p g cap : Nat} {K : Nat → Prop} {all : List Tk} {nv v : Value} {s t u : S} {l : List Bs}
/-- a row of texts of one's own. -/
structure WR (W : World) (n : Nat) (K : Nat → Prop) (p g cap : Nat) (all : List Tk) (nv : Value) (w : World) (t : S) (v : Value) (l : List Bs) : Prop where
  pm : PM w n K p g cap all nv t
  go : Fr (· = p) W w
  row : Strs w (own1 v) v l
  fr : Fresh W v
  kW : ∀ k, K k → k < W.heap.size
theorem WR.start (h : PM W n K p g cap all nv s) : WR W n K p g cap all nv W s (.slice none 0 0) [] := ⟨h, Fr.refl _ _, Strs.nil _ _, Fresh.nil _, h.x.kb⟩
theorem WR.call0 (h : WR W n K p g cap all nv w t v l) (f : Fr (fun _ => False) w w') : WR W n K p g cap all nv w' t v l :=
  ⟨h.pm.fr f, h.go.trans (f.mono fun _ _ e => e.elim), h.row.fr f (Tp.none _), h.fr, h.kW⟩
theorem WR.call (h : WR W n K p g cap all nv w t v l) (hp : PM w' n K p g cap all nv u) (f : Fr (· = p) w w') : WR W n K p g cap all nv w' u v l :=
  ⟨hp, h.go.trans f, h.row.fr f h.pm.tp, h.fr, h.kW⟩
theorem WR.app {g' n' cp : Nat} {l2 : List Bs} (h : WR W n K p g cap all nv w t v l) (f : Fr (own1 v) w w') (hr : Strs w' (own1 (.slice (some ⟨g', 0, none⟩) n' cp)) (.slice (some ⟨g', 0, none⟩) n' cp) l2) (hat : v.ownBlock = some g' ∨ g' = w.heap.size + 1) : WR W n K p g cap all nv w' t (.slice (some ⟨g', 0, none⟩) n' cp) l2 :=
  ⟨h.pm.app f h.row.1 (fun k e hk => by have h1 := h.fr k e; have h2 := h.kW k hk; omega) ⟨by decide, by decide, by decide⟩, h.go.app f h.fr, hr, h.fr.more h.go.size hat, h.kW⟩
theorem strs_new1 (w : World) (t : Bs) : Strs (w.alloc (.cells #[.string (st t)] 9)) (own1 (.slice (some ⟨w.heap.size, 0, none⟩) 1 1)) (.slice (some ⟨w.heap.size, 0, none⟩) 1 1) [t] :=
  ⟨⟨rfl, .inr ⟨w.heap.size, 1, #[.string (st t)], rfl, Nat.zero_le _, heap_alloc_new w _, Nat.le_refl _, by unfold maxLen; omega, rfl, rfl⟩⟩, fun k e => e⟩
theorem WR.lit1 {x : Bs} (h : WR W n K p g cap all nv w t v l) : WR W n K p g cap all nv (w.alloc (.cells #[.string (st x)] 9)) t (.slice (some ⟨w.heap.size, 0, none⟩) 1 1) [x] :=
  ⟨h.pm.alc, h.go.alloc _, strs_new1 w x, fun k e => by have e' : some w.heap.size = some k := e; cases e'; exact h.go.size, h.kW⟩
theorem caseHead_any (h : PM W n K p g cap all nv s) :
    Calls Try.prog 70 #[.pointer (some ⟨p, 0, none⟩)] W fun e w' => ∃ v, e = .returned v ∧ WR W n K p g cap all nv w' s.caseHead.2 v [s.caseHead.1] := by
  have HE := Lib.hid (fun (w : World) (s : S) (h : PM w n K p g cap all nv s) => expect_any h ⟨#[99, 97, 115, 101]⟩ [99, 97, 115, 101] rfl (by decide))
  have HW := Lib.hid (fun (w : World) (s : S) (h : PM w n K p g cap all nv s) => word_any' h)
  have HB := Lib.hid (fun (w : World) (s : S) (h : PM w n K p g cap all nv s) => breaks_any h)
  have HI := Lib.hid (fun (w : World) (s : S) (h : PM w n K p g cap all nv s) => expect_any h ⟨#[105, 110]⟩ [105, 110] rfl (by decide))
  have H0 := Lib.hid (WR.start h)
  unfold S.caseHead
  dsimp only
  obtain ⟨s1, hs1⟩ : ∃ s1, s.need [99, 97, 115, 101] = s1 := ⟨_, rfl⟩
  obtain ⟨r, hr⟩ : ∃ r, s1.word = r := ⟨_, rfl⟩
  obtain ⟨s3, hs3⟩ : ∃ s3, r.2.breaks = s3 := ⟨_, rfl⟩
  obtain ⟨s4, hs4⟩ : ∃ s4, s3.need [105, 110] = s4 := ⟨_, rfl⟩
  rw [hs1, hr, hs3, hs4]
  have HE := Lib.hid (HE.out W s h)
  rw [hs1] at HE
  have HW := Lib.hid (fun (w : World) => HW.out w s1)
  rw [hr] at HW
  have HB1 := Lib.hid (fun (w : World) => HB.out w r.2)
  rw [hs3] at HB1
  have HI := Lib.hid (fun (w : World) => HI.out w s3)
  rw [hs4] at HI
  have HB2 := Lib.hid (fun (w : World) => HB.out w s4)
  clear hs1 hr hs3 hs4 h HB
  go_enter Try.func70, Try.ntmps70
  go_wp2_with (first | (go_at_call 68; (with_reducible refine HE.out.mono ?_); rintro e w1 ⟨rfl, hP, hF⟩; have H1 := Lib.hid (H0.out.call hP hF); clear hP hF) | (go_at_call 78; (with_reducible refine (HW.out _ H1.out.pm).mono ?_); rintro e w2 ⟨rfl, hP, hF⟩; have H2 := Lib.hid ((H1.out.call hP hF).lit1 (x := r.1)); clear hP hF) | (go_at_call 22; (with_reducible refine (HB1.out _ H2.out.pm).mono ?_); rintro e w3 ⟨rfl, hP, hF⟩; have H3 := Lib.hid (H2.out.call hP hF); clear hP hF) | (go_at_call 68; (with_reducible refine (HI.out _ H3.out.pm).mono ?_); rintro e w4 ⟨rfl, hP, hF⟩; have H4 := Lib.hid (H3.out.call hP hF); clear hP hF) | (go_at_call 22; (with_reducible refine (HB2.out _ H4.out.pm).mono ?_); rintro e w5 ⟨rfl, hP, hF⟩; have H5 := Lib.hid (H4.out.call hP hF); clear hP hF))
  go_ret
  exact ⟨_, rfl, H5.out⟩
def ptRel (W : World) (n : Nat) (K : Nat → Prop) (p g cap : Nat) (all : List Tk) (nv : Value) (R : List Bs × S) (lv : Value) (wr : World) : Prop :=
  ∃ l t m, WR W n K p g cap all nv wr t lv l ∧ patG m l t = R ∧ t.ts.length ≤ m ∧ l.length + t.ts.length ≤ 6000
set_option maxHeartbeats 2000000 in
theorem patterns_any (h : PM W n K p g cap all nv s) :
    Calls Try.prog 79 #[.pointer (some ⟨p, 0, none⟩)] W fun e w' => ∃ v, e = .returned v ∧ WR W n K p g cap all nv w' s.patterns.2 v s.patterns.1 := by
  have H0 := Lib.hid (WR.start h)
  have HM0 := Lib.hid (takes_any h ⟨#[40]⟩ [40] rfl (by decide))
  have HW := Lib.hid (fun (w : World) (s : S) (h : PM w n K p g cap all nv s) => word_any' h)
  have HX := Lib.hid (fun (w : World) (s : S) (h : PM w n K p g cap all nv s) => expect_any h ⟨#[41]⟩ [41] rfl (by decide))
  have l5 := h.x.facts.2.2.2.2.1
  have hsz : (s.may [40]).word.2.ts.length ≤ 5000 := by
    have h1 := (may_st s (t := [40]) (by decide) n h.x.inv)
    have h2 := (word_st (s.may [40]) n h1.1)
    have h3 := h1.2.1.suf.length_le
    have h4 := h2.2.1.suf.length_le
    omega
  unfold S.patterns
  dsimp only
  obtain ⟨r, hr⟩ : ∃ r, (s.may [40]).word = r := ⟨_, rfl⟩
  obtain ⟨R, hR⟩ : ∃ R, patG r.2.ts.length [r.1] r.2 = R := ⟨_, rfl⟩
  rw [hr] at hsz
  rw [hr, hR]
  have HW0 := Lib.hid (fun (w : World) => HW.out w (s.may [40]))
  rw [hr] at HW0
  have HR0 := Lib.hid hR
  clear h hr hR
  go_enter Try.func79, Try.ntmps79
  go_wp2_with (first | (go_at_call 37; (with_reducible refine HM0.out.mono ?_); rintro e w1 ⟨rfl, hP, hF⟩; have H1 := Lib.hid (H0.out.call hP hF); clear hP hF) | (go_at_call 78; (with_reducible refine (HW0.out _ H1.out.pm).mono ?_); rintro e w2 ⟨rfl, hP, hF⟩; have H2 := Lib.hid ((H1.out.call hP hF).lit1 (x := r.1)); clear hP hF))
  go_loopw [3] (fun lv wr => ptRel W n K p g cap all nv R lv wr) (fun _ wr => leftOf wr p)
  case atStart => exact ⟨_, _, _, H2.out, HR0.out, Nat.le_refl _, by simp; omega⟩
  case round =>
    obtain ⟨l, t, m, hW, hr, hm, hlen⟩ := hrel
    clear HR0 H2
    have HK := Lib.hid hW
    have HML := Lib.hid hW.pm.left
    have hpos := hW.pm.x.inv.good.ne
    obtain ⟨m, rfl⟩ : ∃ m', m = m' + 1 := ⟨m - 1, by omega⟩
    rw [patG] at hr
    have HT := Lib.hid (takes_any hW.pm ⟨#[124]⟩ [124] rfl (by decide))
    cases hb : t.is [124] with
    | true =>
      rw [if_pos hb] at hr
      rw [hb] at HT
      have hmay : t.may [124] = t.adv := by unfold S.may; rw [if_pos hb]
      rw [hmay] at HT
      have HV := Lib.hid hr
      have HWD := Lib.hid (fun (w : World) => HW.out w t.adv)
      have hlt : t.adv.word.2.ts.length + 1 ≤ t.ts.length := by
        have h1 := adv_is (by decide) hb n hW.pm.x.inv
        have h2 := (word_st t.adv n h1.1).2.1.suf.length_le
        have h3 : t.adv.ts.length = t.ts.length - 1 := List.length_tail
        omega
      clear hW hr hb hmay
      go_wp2_with (first | (go_at_call 37; (with_reducible refine HT.out.mono ?_); rintro e w3 ⟨rfl, hP, hF⟩; have H3 := Lib.hid (HK.out.call hP hF); clear hP hF) | (go_at_call 78; (with_reducible refine (HWD.out _ H3.out.pm).mono ?_); rintro e w4 ⟨rfl, hP, hF⟩; have H4 := Lib.hid (H3.out.call hP hF); clear hP hF) | (at_builtin; have q4 := H4.out.row; refine wpList_str rfl _ _ rfl l t.adv.word.1 rfl rfl rfl q4 (by omega) ?_; intro g5 c5 w5 hr5 hat5 hF5; have H5 := Lib.hid (H4.out.app hF5 hr5 hat5); clear hr5 hat5 hF5))
      refine ⟨⟨_, _, m, H5.out, HV.out, by omega, by rw [List.length_append]; simp; omega⟩, ?_⟩
      rw [H5.out.pm.left, HML.out]
      omega
    | false =>
      rw [if_neg (by rw [hb]; decide)] at hr
      rw [hb] at HT
      have hmay : t.may [124] = t := by unfold S.may; rw [if_neg (by rw [hb]; decide)]
      rw [hmay] at HT
      have HV := Lib.hid hr
      have HX2 := Lib.hid (fun (w : World) => HX.out w t)
      clear hW hr hb hmay
      go_wp2_with (first | (go_at_call 37; (with_reducible refine HT.out.mono ?_); rintro e w3 ⟨rfl, hP, hF⟩; have H3 := Lib.hid (HK.out.call hP hF); clear hP hF) | (go_at_call 68; (with_reducible refine (HX2.out _ H3.out.pm).mono ?_); rintro e w4 ⟨rfl, hP, hF⟩; have H4 := Lib.hid (H3.out.call hP hF); clear hP hF))
      go_ret
      rw [← HV.out]
      exact ⟨_, rfl, H4.out⟩
def fhRel (W : World) (n : Nat) (K : Nat → Prop) (p g cap : Nat) (all : List Tk) (nv : Value) (R : List Bs × S) (b : Bool) (lv : Value) (wr : World) : Prop :=
  ∃ l t m, WR W n K p g cap all nv wr t lv l ∧ (if b then wordsG m l t else (l, t)) = R ∧ t.ts.length ≤ m ∧ l.length + t.ts.length ≤ 6000
set_option maxHeartbeats 4000000 in
theorem forHead_any (h : PM W n K p g cap all nv s) :
    Calls Try.prog 69 #[.pointer (some ⟨p, 0, none⟩)] W fun e w' => ∃ v, e = .returned (.tuple #[.string (st (s.need [102, 111, 114]).name.1), .bool (s.need [102, 111, 114]).name.2.forIn.1.1, v]) ∧ WR W n K p g cap all nv w' (s.need [102, 111, 114]).name.2.forIn.2 v (s.need [102, 111, 114]).name.2.forIn.1.2 := by
  have H0 := Lib.hid (WR.start h)
  have HE := Lib.hid (expect_any h ⟨#[102, 111, 114]⟩ [102, 111, 114] rfl (by decide))
  have l5 := h.x.facts.2.2.2.2.1
  obtain ⟨s1, hs1⟩ : ∃ s1, s.need [102, 111, 114] = s1 := ⟨_, rfl⟩
  have i1 := need_st s (t := [102, 111, 114]) (by decide) n h.x.inv
  rw [hs1] at HE i1
  rw [hs1]
  obtain ⟨r, hr⟩ : ∃ r, s1.name = r := ⟨_, rfl⟩
  have HN := Lib.hid (fun (w : World) (h : PM w n K p g cap all nv s1) => name_any h)
  have i2 := name_st s1 n i1.1
  rw [hr] at HN i2
  rw [hr]
  unfold S.forIn
  dsimp only
  have HB := Lib.hid (fun (w : World) (s : S) (h : PM w n K p g cap all nv s) => breaks_any h)
  have i3 := breaks_st r.2 n i2.1
  obtain ⟨t, ht⟩ : ∃ t, r.2.breaks = t := ⟨_, rfl⟩
  have HB1 := Lib.hid (fun (w : World) => HB.out w r.2)
  rw [ht] at HB1 i3
  rw [ht]
  have HT := Lib.hid (fun (w : World) (h : PM w n K p g cap all nv t) => takes_any h ⟨#[105, 110]⟩ [105, 110] rfl (by decide))
  have hsz : t.ts.length ≤ 5000 := by
    have h1 := i1.2.1.suf.length_le
    have h2 := i2.2.1.suf.length_le
    have h3 := i3.2.1.suf.length_le
    omega
  have hmsz : (t.may [105, 110]).ts.length ≤ t.ts.length := (may_st t (t := [105, 110]) (by decide) n i3.1).2.1.suf.length_le
  obtain ⟨b, hb⟩ : ∃ b, t.is [105, 110] = b := ⟨_, rfl⟩
  have hmay : (if b then t.adv else t) = t.may [105, 110] := by rw [← hb]; rfl
  obtain ⟨R, hR⟩ : ∃ R, (if b then wordsG t.ts.length [] (t.may [105, 110]) else ([], t.may [105, 110])) = R := ⟨_, rfl⟩
  have hR2 : (if t.is [105, 110] = true then wordsG t.ts.length [] t.adv else ([], t)) = R := by
    rw [← hR, hb, ← hmay]
    cases b <;> rfl
  rw [hR2, hb]
  rw [hb] at HT
  have HR0 := Lib.hid hR
  have HS := Lib.hid (fun (w : World) (s : S) (h : PM w n K p g cap all nv s) => takes_any h ⟨#[59]⟩ [59] rfl (by decide))
  have HWD := Lib.hid (fun (w : World) (s : S) (h : PM w n K p g cap all nv s) => word_any' h)
  have HNX := Lib.hid (fun (w : World) (s : S) (h : PM w n K p g cap all nv s) => next_any h)
  obtain ⟨t2, ht2⟩ : ∃ t2, t.may [105, 110] = t2 := ⟨_, rfl⟩
  rw [ht2] at HT hmsz HR0
  clear h hs1 hr ht i1 i2 i3 hb hmay hR hR2 ht2
  cases b
  all_goals
    go_enter Try.func69, Try.ntmps69
    go_wp2_with (first | (go_at_call 68; (with_reducible refine HE.out.mono ?_); rintro e w1 ⟨rfl, hP, hF⟩; have H1 := Lib.hid (H0.out.call hP hF); clear hP hF) | (go_at_call 75; (with_reducible refine (HN.out _ H1.out.pm).mono ?_); rintro e w2 ⟨rfl, hP, hF⟩; have H2 := Lib.hid (H1.out.call hP hF); clear hP hF) | (go_at_call 22; (with_reducible refine (HB1.out _ H2.out.pm).mono ?_); rintro e w3 ⟨rfl, hP, hF⟩; have H3 := Lib.hid (H2.out.call hP hF); clear hP hF) | (go_at_call 37; (with_reducible refine (HT.out _ H3.out.pm).mono ?_); rintro e w4 ⟨rfl, hP, hF⟩; have H4 := Lib.hid (H3.out.call hP hF); clear hP hF))
  · go_loopw [7] (fun lv wr => fhRel W n K p g cap all nv R false lv wr) (fun _ wr => 0)
    case atStart => exact ⟨_, _, t.ts.length, H4.out, HR0.out, hmsz, by simp; omega⟩
    case round =>
      obtain ⟨l, u, m, hW, hr, hm, hlen⟩ := hrel
      have HK := Lib.hid hW
      have HV := Lib.hid (show (l, u) = R from hr)
      have HS2 := Lib.hid (fun (w : World) => HS.out w u)
      have HB2 := Lib.hid (fun (w : World) => HB.out w (u.may [59]))
      clear HR0 hW hr
      go_wp2_with (first | (go_at_call 37; (with_reducible refine (HS2.out _ HK.out.pm).mono ?_); rintro e w5 ⟨rfl, hP, hF⟩; have H5 := Lib.hid (HK.out.call hP hF); clear hP hF) | (go_at_call 22; (with_reducible refine (HB2.out _ H5.out.pm).mono ?_); rintro e w6 ⟨rfl, hP, hF⟩; have H6 := Lib.hid (H5.out.call hP hF); clear hP hF))
      go_ret3
      rw [← HV.out]
      exact ⟨_, rfl, H6.out⟩
  · go_loopw [7] (fun lv wr => fhRel W n K p g cap all nv R true lv wr) (fun _ wr => leftOf wr p)
    case atStart => exact ⟨_, _, t.ts.length, H4.out, HR0.out, hmsz, by simp; omega⟩
    case round =>
      obtain ⟨l, u, m, hW, hr, hm, hlen⟩ := hrel
      have HK := Lib.hid hW
      have HML := Lib.hid hW.pm.left
      have hpos := hW.pm.x.inv.good.ne
      obtain ⟨m, rfl⟩ : ∃ m', m = m' + 1 := ⟨m - 1, by omega⟩
      simp only [if_true] at hr
      rw [wordsG] at hr
      have HNU := Lib.hid (HNX.out wr u hW.pm)
      have hinv := hW.pm.x.inv
      clear HR0 hW
      by_cases hk : u.hd.kind = 1
      · rw [if_pos hk] at hr
        have HV := Lib.hid hr
        have HW2 := Lib.hid (fun (w : World) => HWD.out w u)
        have hk2 : (u.hd.kind == 1) = true := by rw [beq_iff_eq]; exact hk
        have hlt : u.word.2.ts.length + 1 ≤ u.ts.length := by
          have e : u.word.2 = u.adv := by unfold S.word; rw [if_pos hk]
          rw [e]
          show u.ts.tail.length + 1 ≤ _
          rw [List.length_tail]; omega
        clear hr hk hinv
        go_wp2_with (first | (refine wpList_field rfl _ _ rfl _ _ _ rfl _ rfl ?_) | (refine wpList_fieldG rfl _ _ rfl _ _ _ rfl _ rfl ?_) | (go_at_call 25; (with_reducible refine HNU.out.mono ?_); rintro e w5 ⟨rfl, hF⟩; have H5 := Lib.hid (HK.out.call0 hF); clear hF) | (go_at_call 78; (with_reducible refine (HW2.out _ H5.out.pm).mono ?_); rintro e w6 ⟨rfl, hP, hF⟩; have H6 := Lib.hid (H5.out.call hP hF); clear hP hF) | (at_builtin; have q6 := H6.out.row; refine wpList_str rfl _ _ rfl l u.word.1 rfl rfl rfl q6 (by omega) ?_; intro g7 c7 w7 hr7 hat7 hF7; have H7 := Lib.hid (H6.out.app hF7 hr7 hat7); clear hr7 hat7 hF7))
        refine ⟨⟨_, _, m, H7.out, HV.out, by omega, by rw [List.length_append]; simp; omega⟩, ?_⟩
        rw [H7.out.pm.left, HML.out]
        omega
      · rw [if_neg hk] at hr
        have HV := Lib.hid hr
        have hk2 : (u.hd.kind == 1) = false := by rw [beq_eq_false_iff_ne]; exact hk
        have HS2 := Lib.hid (fun (w : World) => HS.out w u)
        have HB2 := Lib.hid (fun (w : World) => HB.out w (u.may [59]))
        clear hr hk hinv
        go_wp2_with (first | (refine wpList_field rfl _ _ rfl _ _ _ rfl _ rfl ?_) | (refine wpList_fieldG rfl _ _ rfl _ _ _ rfl _ rfl ?_) | (go_at_call 25; (with_reducible refine HNU.out.mono ?_); rintro e w5 ⟨rfl, hF⟩; have HK5 := Lib.hid (HK.out.call0 hF); clear hF) | (go_at_call 37; (with_reducible refine (HS2.out _ HK5.out.pm).mono ?_); rintro e w6 ⟨rfl, hP, hF⟩; have H5 := Lib.hid (HK5.out.call hP hF); clear hP hF) | (go_at_call 22; (with_reducible refine (HB2.out _ H5.out.pm).mono ?_); rintro e w7 ⟨rfl, hP, hF⟩; have H6 := Lib.hid (H5.out.call hP hF); clear hP hF))
        go_ret3
        rw [← HV.out]
        exact ⟨_, rfl, H6.out⟩
end
end Go.Proofs.Ytoahgblgchmclaa
