/- The items of a case. -/
import Derived.Test.YtoahgblgchmclaaPU
namespace Go.Proofs.Ytoahgblgchmclaa
open Go.RowKit
set_option linter.unusedVariables false
set_option linter.unusedSimpArgs false
theorem info_strs : ∃ i, Try.prog.info? 28 = some i ∧ i.zero = some (.slice none 0 0) ∧ i.size = 1 ∧ i.bytes = 24 := info_of (by kernel_rfl)
section
variable {w w1 : World} {ops : Array Oper} {rest : List Oper} {o : Oper} {a : Act} {Q : Exit → Act → World → Prop} {X : Nat → Prop} {v v2 : Value}
/-- 'append(pats, pattern)'. -/
theorem wpList_pat (hgd : o.guard = none) (s x : Operand) (ho : o.op = .call { callee := .builtin .append, args := #[s, x], argTypes := #[30, 30] }) (ps : List (List Bs)) (l : List Bs) (hs : a.eval s = v)
    (hw : w1 = w.alloc (.cells #[v2] 28)) (hx : a.eval x = .slice (some ⟨w.heap.size, 0, none⟩) 1 1) (h : Pats w X v ps) (h2 : Strs w (own1 v2) v2 l) (hl : ps.length ≤ 100000)
    (k : ∀ g' cap w', Pats w' (fun k => X k ∨ own1 v2 k ∨ k = g') (.slice (some ⟨g', 0, none⟩) (ps.length + 1) cap) (ps ++ [l]) → (v.ownBlock = some g' ∨ g' = w.heap.size + 1) → g' < w'.heap.size → Fr (own1 v) w w' → wpList Try.prog ops Q rest (a.put o.dst (.slice (some ⟨g', 0, none⟩) (ps.length + 1) cap)) w') :
    wpList Try.prog ops Q (o :: rest) a w1 := by
  obtain ⟨i, hi, hz0, hz1, hz2⟩ := info_strs
  subst hw
  obtain ⟨vs, h3, h4, h5, h6⟩ := h
  have hrow : (w.alloc (.cells #[v2] 28)).ownsRow 0 28 1 v ps.length vs := ownz_fr h3 ((Fr.refl (fun _ => False) w).alloc _) (fun _ _ => id)
  refine wpList_append_lies _ hgd s x 30 ho 0 28 i _ 1 24 Try.underlying30 hi hz0 hz1 hz2 rfl (by decide) v ps.length vs hs hrow ⟨w.heap.size, 0, none⟩ 1 1 [v2] hx rfl (newT w [v2] 28) (by intro u hu; simp at hu; subst hu; exact one_slice h2.1) (by decide) (by unfold maxLen; omega) (by omega) (Nat.zero_le _) (w.heap.size + 1) (by simp) ?_
  intro g' cap w' hown hgrow hat hlt
  have f : Fr (own1 v) w w' := ((Fr.refl _ w).alloc _).trans (Fr.grown hgrow)
  refine k g' cap w' ⟨vs ++ [v2], by rw [List.length_append]; exact hown, fun k e => by have e' : some g' = some k := e; cases e'; exact .inr (.inr rfl), by rw [List.length_append, List.length_append, h5]; rfl, fun i u y hu hy => ?_⟩ hat hlt f
  by_cases hi : i < ps.length
  · rw [List.getElem?_append_left (by omega)] at hu hy
    have q := h6 i u y hu hy
    exact ⟨ownz_fr q.1 f (fun k e e2 => own_ne q.1 h3 (by decide) k e e2), fun k e => Or.inl (q.2 k e)⟩
  · rw [List.getElem?_append_right (by omega)] at hu hy
    have e0 : i - ps.length = 0 := by
      have := (List.getElem?_eq_some_iff.1 hy).1
      simp at this
      omega
    rw [h5, e0] at hu
    rw [e0] at hy
    cases hu
    cases hy
    exact ⟨ownz_fr h2.1 f (fun k e e2 => own_ne h2.1 h3 (by decide) k e e2), fun k e => .inr (.inl e)⟩
end
section
variable {W w w' : World} {n p g cap : Nat} {K Kt K2 X : Nat → Prop} {all : List Tk} {nv nvt nv2 kv pv v2 : Value} {s t u : S} {ks l2 : List Int} {ps : List (List Bs)} {l : List Bs}
/-- a row of numbers and a row of rows of texts. -/
structure CR (W : World) (n : Nat) (K : Nat → Prop) (p g cap : Nat) (all : List Tk) (nv : Value) (w : World) (t : S) (nvt : Value) (Kt : Nat → Prop) (kv : Value) (ks : List Int) (pv : Value) (ps : List (List Bs)) (X : Nat → Prop) : Prop where
  kr : KR W n K p g cap all nv w t nvt Kt kv ks
  pats : Pats w X pv ps
  xf : ∀ k, X k → W.heap.size ≤ k
  xm : ∀ k, X k → ¬ Kt k
  xw : ∀ k, X k → k < w.heap.size
  xd : ∀ k, X k → ¬ own1 kv k
theorem CR.start (h : PM W n K p g cap all nv s) : CR W n K p g cap all nv W s nv K (.slice none 0 0) [] (.slice none 0 0) [] (fun _ => False) :=
  ⟨KR.start h, Pats.nil _ _, fun k e => e.elim, fun k e => e.elim, fun k e => e.elim, fun k e => e.elim⟩
theorem CR.call (h : CR W n K p g cap all nv w t nvt Kt kv ks pv ps X) (hp : PM w' n Kt p g cap all nvt u) (f : Fr (· = p) w w') : CR W n K p g cap all nv w' u nvt Kt kv ks pv ps X :=
  ⟨h.kr.call hp f, h.pats.fr f h.kr.pm.tp, h.xf, h.xm, fun k e => Nat.lt_of_lt_of_le (h.xw k e) f.size, h.xd⟩
theorem CR.node (h : CR W n K p g cap all nv w t nvt Kt kv ks pv ps X) (hp : PM w' n K2 p g cap all nv2 u) (k : Go p nvt nv2 Kt K2 w w') : CR W n K p g cap all nv w' u nv2 K2 kv ks pv ps X :=
  ⟨h.kr.node hp k, h.kr.pm.pats k h.pats, h.xf, fun i e => k.nk (h.xw i e) (h.xm i e), fun i e => Nat.lt_of_lt_of_le (h.xw i e) k.fr.size, h.xd⟩
theorem CR.appK {g' n' cp : Nat} (h : CR W n K p g cap all nv w t nvt Kt kv ks pv ps X) (f : Fr (own1 kv) w w') (hr : Ints w' (own1 (.slice (some ⟨g', 0, none⟩) n' cp)) (.slice (some ⟨g', 0, none⟩) n' cp) l2) (hat : kv.ownBlock = some g' ∨ g' = w.heap.size + 1) :
    CR W n K p g cap all nv w' t nvt Kt (.slice (some ⟨g', 0, none⟩) n' cp) l2 pv ps X :=
  ⟨h.kr.app f hr hat, h.pats.keep f h.xd, h.xf, h.xm, fun k e => Nat.lt_of_lt_of_le (h.xw k e) f.size, fun k e e2 => by
    have e2' : some g' = some k := e2
    cases e2'
    rcases hat with q | q
    · exact h.xd _ e q
    · have := h.xw _ e; omega⟩
theorem CR.appP {g' n' cp : Nat} (h : CR W n K p g cap all nv w t nvt Kt kv ks pv ps X) (hs : Strs w (own1 v2) v2 l) (hv : ∀ k, own1 v2 k → W.heap.size ≤ k ∧ ¬ Kt k) (f : Fr (own1 pv) w w') (hr : Pats w' (fun k => X k ∨ own1 v2 k ∨ k = g') (.slice (some ⟨g', 0, none⟩) n' cp) (ps ++ [l])) (hat : pv.ownBlock = some g' ∨ g' = w.heap.size + 1) (hlt : g' < w'.heap.size) :
    CR W n K p g cap all nv w' t nvt Kt kv ks (.slice (some ⟨g', 0, none⟩) n' cp) (ps ++ [l]) (fun k => X k ∨ own1 v2 k ∨ k = g') := by
  obtain ⟨vs, h3, h4, h5, h6⟩ := h.pats
  have hm : Mine Kt pv := fun k e => h.xm k (h4 k e)
  have hpm := h.kr.pm.app f h3 hm ⟨by decide, by decide, by decide⟩
  have hk : ∀ k, own1 kv k → ¬ own1 pv k := own_ne h.kr.row.1 h3 (by decide)
  have hg1 : W.heap.size ≤ g' := by
    rcases hat with q | q
    · exact h.xf _ (h4 _ q)
    · have := h.kr.go.fr.size; omega
  refine ⟨⟨hpm, h.kr.go.app f (fun k e => h.xf k (h4 k e)), h.kr.row.keep f hk, h.kr.fr, h.kr.mine⟩, hr, fun k e => ?_, fun k e e2 => ?_, fun k e => ?_, fun k e e2 => ?_⟩
  · rcases e with e | e | e
    · exact h.xf k e
    · exact (hv k e).1
    · omega
  · rcases e with e | e | e
    · exact h.xm k e e2
    · exact (hv k e).2 e2
    · subst e
      rcases hat with q | q
      · exact h.xm _ (h4 _ q) e2
      · have := h.kr.pm.x.kb _ e2; omega
  · rcases e with e | e | e
    · exact Nat.lt_of_lt_of_le (h.xw k e) f.size
    · exact Nat.lt_of_lt_of_le (ownz_type hs.1 e).2.1 f.size
    · omega
  · rcases e with e | e | e
    · exact h.xd k e e2
    · exact own_ne hs.1 h.kr.row.1 (by decide) k e e2
    · subst e
      rcases hat with q | q
      · exact hk _ e2 q
      · have := (ownz_type h.kr.row.1 e2).2.1; omega
theorem caseList_any {L : S → Int × S} {o : Nat} {bd : Int} (HL : LCon L n p g cap all o bd) (h : PM W n K p g cap all nv s) (ho : o ≤ s.opn) (ho2 : s.opn ≤ 25) (hp : pot s ≤ bd) :
    Calls Try.prog 80 #[.pointer (some ⟨p, 0, none⟩)] W (NodePost W n K p g cap all nv (caseList L s)) := by
  have HB := Lib.hid (breaks_any h)
  have hst := breaks_st s n h.x.inv
  have HI := Lib.hid (fun (w : World) (h : PM w n K p g cap all nv s.breaks) => bItem_any h)
  have HLC := Lib.hid (fun (w : World) (h : PM w n K p g cap all nv s.breaks) => HL w K nv s.breaks h (by have := hst.2.2.1; omega) (by have := hst.2.2.1; omega) (by have := hst.2.2.2; omega))
  obtain ⟨R, hR⟩ : ∃ R, caseList L s = R := ⟨_, rfl⟩
  rw [hR]
  unfold caseList at hR
  cases hb : bItem s.breaks.hd with
  | true =>
    rw [if_pos hb] at hR
    rw [hb] at HI
    rw [hR] at HLC
    clear hb hR hst h HL ho ho2 hp
    go_enter Try.func80, Try.ntmps80
    go_wp2_with (first | (go_at_call 22; (with_reducible refine HB.out.mono ?_); rintro e w1 ⟨rfl, hP, hF⟩; have H1 := Lib.hid hP; have G1 := Lib.hid (Go.of (nv := nv) (K := K) hF); clear hP hF) | (go_at_call 23; (with_reducible refine (HI.out _ H1.out).mono ?_); rintro e w2 ⟨rfl, hF⟩; have H2 := Lib.hid (H1.out.fr hF); have G2 := Lib.hid (G1.out.call0 hF); clear hF) | (go_at_call 24; (with_reducible refine (HLC.out _ H2.out).mono ?_); rintro e w3 ⟨rfl, nv3, K3, hP, hG⟩; have H3 := Lib.hid hP; have G3 := Lib.hid (G2.out.trans hG); clear hP hG))
    go_ret
    exact ⟨rfl, _, _, H3.out, G3.out⟩
  | false =>
    rw [if_neg (by rw [hb]; decide)] at hR
    rw [hb] at HI
    have HV := Lib.hid hR
    clear hb hR hst h HL ho ho2 hp HLC
    go_enter Try.func80, Try.ntmps80
    go_wp2_with (first | (go_at_call 22; (with_reducible refine HB.out.mono ?_); rintro e w1 ⟨rfl, hP, hF⟩; have H1 := Lib.hid hP; have G1 := Lib.hid (Go.of (nv := nv) (K := K) hF); clear hP hF) | (go_at_call 23; (with_reducible refine (HI.out _ H1.out).mono ?_); rintro e w2 ⟨rfl, hF⟩; have H2 := Lib.hid (H1.out.fr hF); have G2 := Lib.hid (G1.out.call0 hF); clear hF))
    go_ret
    rw [← HV.out]
    exact ⟨rfl, _, _, H2.out, G2.out⟩
def csRel (W : World) (n : Nat) (K : Nat → Prop) (p g cap : Nat) (all : List Tk) (nv : Value) (L : S → Int × S) (s : S) (R : (List (List Bs) × List Int) × S) (pv kv : Value) (wr : World) : Prop :=
  ∃ (ps : List (List Bs)) (ks : List Int) (t : S) (m : Nat) (nvt : Value) (Kt X : Nat → Prop), CR W n K p g cap all nv wr t nvt Kt kv ks pv ps X ∧ caseG L m ps ks t = R ∧ t.ts.length ≤ m ∧ t.opn = s.opn ∧ pot t ≤ pot s ∧ ps.length + t.ts.length ≤ 6000 ∧ ks.length + t.ts.length ≤ 6000
set_option maxHeartbeats 4000000 in
theorem caseItems_any {L : S → Int × S} {o : Nat} {bd : Int} (hL : Lst L) (HL : LCon L n p g cap all o bd) (h : PM W n K p g cap all nv s) (ho : o ≤ s.opn) (ho2 : s.opn ≤ 25) (hp : pot s + 60 ≤ bd ∧ bd ≤ 60000) :
    Calls Try.prog 71 #[.pointer (some ⟨p, 0, none⟩)] W fun e w' => ∃ pv kv nv' K' X, e = .returned (.tuple #[pv, kv]) ∧ CR W n K p g cap all nv w' (caseG L s.ts.length [] [] s).2 nv' K' kv (caseG L s.ts.length [] [] s).1.2 pv (caseG L s.ts.length [] [] s).1.1 X := by
  have H0 := Lib.hid (CR.start h)
  have l5 := h.x.facts.2.2.2.2.1
  obtain ⟨R, hR⟩ : ∃ R, caseG L s.ts.length [] [] s = R := ⟨_, rfl⟩
  rw [hR]
  have HR0 := Lib.hid hR
  clear h hR
  go_enter Try.func71, Try.ntmps71
  go_wp2
  go_loopw [4, 5] (fun pv kv wr => csRel W n K p g cap all nv L s R pv kv wr) (fun _ _ wr => leftOf wr p)
  case atStart => exact ⟨[], [], s, _, nv, K, _, H0.out, HR0.out, Nat.le_refl _, rfl, Int.le_refl _, by simp; omega, by simp; omega⟩
  case round =>
    obtain ⟨ps, ks, t, m, nvt, Kt, X, hC, hr, hm, hopn, hpot, hl1, hl2⟩ := hrel
    clear HR0
    have HC := Lib.hid hC
    have HML := Lib.hid hC.kr.pm.left
    have inv := hC.kr.pm.x.inv
    have hpos := inv.good.ne
    obtain ⟨m, rfl⟩ : ∃ m', m = m' + 1 := ⟨m - 1, by omega⟩
    rw [caseG] at hr
    have HT := Lib.hid (takes_any hC.kr.pm ⟨#[101, 115, 97, 99]⟩ [101, 115, 97, 99] rfl (by decide))
    cases hb : t.is [101, 115, 97, 99] with
    | true =>
      rw [if_pos hb] at hr
      rw [hb] at HT
      have hmay : t.may [101, 115, 97, 99] = t.adv := by unfold S.may; rw [if_pos hb]
      rw [hmay] at HT
      have HV := Lib.hid hr
      clear hC hr hb hmay inv hopn hpot hp ho ho2 hL HL
      go_wp2_with (first | (go_at_call 37; (with_reducible refine HT.out.mono ?_); rintro e w1 ⟨rfl, hP, hF⟩; have H1 := Lib.hid (HC.out.call hP hF); clear hP hF HT))
      go_ret2
      rw [← HV.out]
      exact ⟨_, _, _, _, _, rfl, H1.out⟩
    | false =>
      rw [if_neg (by rw [hb]; decide)] at hr
      rw [hb] at HT
      have hmay : t.may [101, 115, 97, 99] = t := by unfold S.may; rw [if_neg (by rw [hb]; decide)]
      rw [hmay] at HT
      dsimp only at hr
      have HPT := Lib.hid (fun (w : World) (h : PM w n Kt p g cap all nvt t) => patterns_any h)
      have i2 := patterns_st t n inv
      obtain ⟨q, hq⟩ : ∃ q, t.patterns = q := ⟨_, rfl⟩
      rw [hq] at hr HPT i2
      have HCL := Lib.hid (fun (w : World) (h : PM w n Kt p g cap all nvt q.2) => caseList_any HL h (by have := i2.2.2.1; omega) (by have := i2.2.2.1; omega) (by have := i2.2.2.2; omega))
      have i3 := caseList_st hL q.2 n i2.1
      obtain ⟨b, hbb⟩ : ∃ b, caseList L q.2 = b := ⟨_, rfl⟩
      rw [hbb] at hr HCL i3
      have HSS := Lib.hid (fun (w : World) (K : Nat → Prop) (nv : Value) (h : PM w n K p g cap all nv b.2) => takes_any h ⟨#[59, 59]⟩ [59, 59] rfl (by decide))
      have hsz : b.2.ts.length ≤ t.ts.length := by
        have h1 := i2.2.1.suf.length_le
        have h2 := i3.2.1.suf.length_le
        omega
      cases hs : b.2.is [59, 59] with
      | true =>
        rw [if_pos hs] at hr
        rw [hs] at HSS
        have hmay2 : b.2.may [59, 59] = b.2.adv := by unfold S.may; rw [if_pos hs]
        rw [hmay2] at HSS
        have HV := Lib.hid hr
        have i4 := adv_is (by decide) hs n i3.1
        have i5 := breaks_st b.2.adv n i4.1
        have hsz2 : b.2.adv.breaks.ts.length + 1 ≤ t.ts.length := by
          have h1 := i5.2.1.suf.length_le
          have h2 : b.2.adv.ts.length = b.2.ts.length - 1 := List.length_tail
          have h3 := i3.1.good.ne
          omega
        have HOT := Lib.hid (show b.2.adv.breaks.opn = s.opn ∧ pot b.2.adv.breaks ≤ pot s from ⟨by have := i2.2.2.1; have := i3.2.2.1; have := i4.2.2.1; have := i5.2.2.1; omega, by have := i2.2.2.2; have := i3.2.2.2; have := i4.2.2.2; have := i5.2.2.2; omega⟩)
        have HBR := Lib.hid (fun (w : World) (K : Nat → Prop) (nv : Value) (h : PM w n K p g cap all nv b.2.adv) => breaks_any h)
        clear hC hr hb hmay inv hopn hpot hp ho ho2 hL HL hq hbb hs hmay2 i2 i3 i4 i5
        go_wp2_with (first | (go_at_call 37; (with_reducible refine HT.out.mono ?_); rintro e w1 ⟨rfl, hP, hF⟩; have H1 := Lib.hid (HC.out.call hP hF); clear hP hF HT) | (go_at_call 79; (with_reducible refine (HPT.out _ H1.out.kr.pm).mono ?_); rintro e w2 ⟨v2, rfl, hW⟩; have H2 := Lib.hid (H1.out.call hW.pm hW.go); have R2 := Lib.hid hW.row; obtain ⟨so2, sc2, hv2, -, -, -⟩ := ownz_form hW.row.1; have F2 := Lib.hid (show ∀ k, own1 v2 k → W.heap.size ≤ k ∧ ¬ Kt k from fun k e => ⟨Nat.le_trans H1.out.kr.go.fr.size (hW.fr k e), fun hk => by have h1 := hW.fr k e; have h2 := H1.out.kr.pm.x.kb k hk; omega⟩); subst hv2; clear hW) | (at_builtin; have q2 := H2.out.pats; refine wpList_pat rfl _ _ rfl ps q.1 rfl rfl rfl q2 R2.out (by omega) ?_; intro g3 c3 w3 hr3 hat3 hlt3 hF3; have H3 := Lib.hid (H2.out.appP R2.out F2.out hF3 hr3 hat3 hlt3); clear hr3 hat3 hlt3 hF3 q2 H2) | (go_at_call 80; (with_reducible refine (HCL.out _ H3.out.kr.pm).mono ?_); rintro e w4 ⟨rfl, nv4, K4, hP, hG⟩; have H4 := Lib.hid (H3.out.node hP hG); clear hP hG) | (at_builtin; have q4 := H4.out.kr.row; refine wpList_int rfl _ _ rfl ks b.1 rfl rfl rfl q4 (by omega) ?_; intro g5 c5 w5 hr5 hat5 hF5; have H5 := Lib.hid (H4.out.appK hF5 hr5 hat5); clear hr5 hat5 hF5 q4 H4) | (go_at_call 37; (with_reducible refine (HSS.out _ _ _ H5.out.kr.pm).mono ?_); rintro e w6 ⟨rfl, hP, hF⟩; have H6 := Lib.hid (H5.out.call hP hF); clear hP hF) | (go_at_call 22; (with_reducible refine (HBR.out _ _ _ H6.out.kr.pm).mono ?_); rintro e w7 ⟨rfl, hP, hF⟩; have H7 := Lib.hid (H6.out.call hP hF); clear hP hF))
        refine ⟨⟨_, _, _, m, _, _, _, H7.out, HV.out, by omega, HOT.out.1, HOT.out.2, by rw [List.length_append]; simp; omega, by rw [List.length_append]; simp; omega⟩, ?_⟩
        rw [H7.out.kr.pm.left, HML.out]
        omega
      | false =>
        rw [if_neg (by rw [hs]; decide)] at hr
        rw [hs] at HSS
        have hmay2 : b.2.may [59, 59] = b.2 := by unfold S.may; rw [if_neg (by rw [hs]; decide)]
        rw [hmay2] at HSS
        have HV := Lib.hid hr
        have HEX := Lib.hid (fun (w : World) (K : Nat → Prop) (nv : Value) (h : PM w n K p g cap all nv b.2) => expect_any h ⟨#[101, 115, 97, 99]⟩ [101, 115, 97, 99] rfl (by decide))
        clear hC hr hb hmay inv hopn hpot hp ho ho2 hL HL hq hbb hs hmay2 i2 i3
        go_wp2_with (first | (go_at_call 37; (with_reducible refine HT.out.mono ?_); rintro e w1 ⟨rfl, hP, hF⟩; have H1 := Lib.hid (HC.out.call hP hF); clear hP hF HT) | (go_at_call 79; (with_reducible refine (HPT.out _ H1.out.kr.pm).mono ?_); rintro e w2 ⟨v2, rfl, hW⟩; have H2 := Lib.hid (H1.out.call hW.pm hW.go); have R2 := Lib.hid hW.row; obtain ⟨so2, sc2, hv2, -, -, -⟩ := ownz_form hW.row.1; have F2 := Lib.hid (show ∀ k, own1 v2 k → W.heap.size ≤ k ∧ ¬ Kt k from fun k e => ⟨Nat.le_trans H1.out.kr.go.fr.size (hW.fr k e), fun hk => by have h1 := hW.fr k e; have h2 := H1.out.kr.pm.x.kb k hk; omega⟩); subst hv2; clear hW) | (at_builtin; have q2 := H2.out.pats; refine wpList_pat rfl _ _ rfl ps q.1 rfl rfl rfl q2 R2.out (by omega) ?_; intro g3 c3 w3 hr3 hat3 hlt3 hF3; have H3 := Lib.hid (H2.out.appP R2.out F2.out hF3 hr3 hat3 hlt3); clear hr3 hat3 hlt3 hF3 q2 H2) | (go_at_call 80; (with_reducible refine (HCL.out _ H3.out.kr.pm).mono ?_); rintro e w4 ⟨rfl, nv4, K4, hP, hG⟩; have H4 := Lib.hid (H3.out.node hP hG); clear hP hG) | (at_builtin; have q4 := H4.out.kr.row; refine wpList_int rfl _ _ rfl ks b.1 rfl rfl rfl q4 (by omega) ?_; intro g5 c5 w5 hr5 hat5 hF5; have H5 := Lib.hid (H4.out.appK hF5 hr5 hat5); clear hr5 hat5 hF5 q4 H4) | (go_at_call 37; (with_reducible refine (HSS.out _ _ _ H5.out.kr.pm).mono ?_); rintro e w6 ⟨rfl, hP, hF⟩; have H6 := Lib.hid (H5.out.call hP hF); clear hP hF) | (go_at_call 68; (with_reducible refine (HEX.out _ _ _ H6.out.kr.pm).mono ?_); rintro e w7 ⟨rfl, hP, hF⟩; have H7 := Lib.hid (H6.out.call hP hF); clear hP hF))
        go_ret2
        rw [← HV.out]
        exact ⟨_, _, _, _, _, rfl, H7.out⟩
end
end Go.Proofs.Ytoahgblgchmclaa
