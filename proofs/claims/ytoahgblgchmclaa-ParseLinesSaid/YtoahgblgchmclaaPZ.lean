/- Functions and commands. -/
import Derived.Test.YtoahgblgchmclaaPY
namespace Go.Proofs.Ytoahgblgchmclaa
open Go.RowKit
set_option linter.unusedVariables false
set_option linter.unusedSimpArgs false
section
variable {W w w' : World} {n p g cap : Nat} {K Kt : Nat → Prop} {all : List Tk} {nv nvt : Value} {s t : S}
theorem cKind_cases (t : Bs) : cKind t = 8 ∨ cKind t = 9 ∨ cKind t = 10 ∨ cKind t = 11 ∨ cKind t = 12 ∨ cKind t = 13 ∨ cKind t = 14 ∨ cKind t = 0 := by
  unfold cKind
  split
  · exact .inl rfl
  split
  · exact .inr (.inl rfl)
  split
  · exact .inr (.inr (.inl rfl))
  split
  · exact .inr (.inr (.inr (.inl rfl)))
  split
  · exact .inr (.inr (.inr (.inr (.inl rfl))))
  split
  · exact .inr (.inr (.inr (.inr (.inr (.inl rfl)))))
  split
  · exact .inr (.inr (.inr (.inr (.inr (.inr (.inl rfl))))))
  · exact .inr (.inr (.inr (.inr (.inr (.inr (.inr rfl))))))
theorem compound_any {L : S → Int × S} {o : Nat} {bd : Int} (hL : Lst L) (HL : LCon L n p g cap all o bd) (h : PM W n K p g cap all nv s) (ho : o ≤ s.opn + 1) (ho2 : s.opn ≤ 900) (hp : pot s + 80 ≤ bd ∧ bd ≤ 60000) :
    Calls Try.prog 61 #[.pointer (some ⟨p, 0, none⟩)] W (NodePost W n K p g cap all nv (compound L s)) := by
  rcases cKind_cases s.enter.hd.text with hk | hk | hk | hk | hk | hk | hk | hk
  · exact compound_two8 hL HL h ho ho2 hp hk
  · exact compound_two9 hL HL h ho ho2 hp hk
  · exact compound_if10 hL HL h ho ho2 hp hk
  · exact compound_three11 hL HL h ho ho2 hp hk
  · exact compound_three12 hL HL h ho ho2 hp hk
  · exact compound_for13 hL HL h ho ho2 hp hk
  · exact compound_case14 hL HL h ho ho2 hp hk
  · exact compound_none0 hL HL h ho ho2 hp hk
set_option maxHeartbeats 4000000 in
theorem function_any {L : S → Int × S} {o : Nat} {bd : Int} (hL : Lst L) (HL : LCon L n p g cap all o bd) (h : PM W n K p g cap all nv s) (ho : o ≤ s.opn + 1) (ho2 : s.opn ≤ 800) (hp : pot s + 90 ≤ bd ∧ bd ≤ 60000) :
    Calls Try.prog 63 #[.pointer (some ⟨p, 0, none⟩)] W (NodePost W n K p g cap all nv (function L s)) := by
  have HEN := Lib.hid (enter_any h (by omega))
  obtain ⟨R, hR⟩ : ∃ R, function L s = R := ⟨_, rfl⟩
  rw [hR]
  unfold function at hR
  dsimp only at hR
  have i1 := enter_st s n h.x.inv
  obtain ⟨t1, ht1⟩ : ∃ t1, s.enter = t1 := ⟨_, rfl⟩
  rw [ht1] at HEN hR i1
  have HNM := Lib.hid (fun (w : World) (K : Nat → Prop) (nv : Value) (h : PM w n K p g cap all nv t1) => name_any h)
  have i2 := name_st t1 n i1.1
  obtain ⟨m, hm⟩ : ∃ m, t1.name = m := ⟨_, rfl⟩
  rw [hm] at HNM hR i2
  have HE1 := Lib.hid (fun (w : World) (K : Nat → Prop) (nv : Value) (h : PM w n K p g cap all nv m.2) => expect_any h ⟨#[40]⟩ [40] rfl (by decide))
  have i3 := need_st m.2 (t := [40]) (by decide) n i2.1
  obtain ⟨t3, ht3⟩ : ∃ t3, m.2.need [40] = t3 := ⟨_, rfl⟩
  rw [ht3] at HE1 hR i3
  have HE2 := Lib.hid (fun (w : World) (K : Nat → Prop) (nv : Value) (h : PM w n K p g cap all nv t3) => expect_any h ⟨#[41]⟩ [41] rfl (by decide))
  have i4 := need_st t3 (t := [41]) (by decide) n i3.1
  obtain ⟨t4, ht4⟩ : ∃ t4, t3.need [41] = t4 := ⟨_, rfl⟩
  rw [ht4] at HE2 hR i4
  have HBR := Lib.hid (fun (w : World) (K : Nat → Prop) (nv : Value) (h : PM w n K p g cap all nv t4) => breaks_any h)
  have i5 := breaks_st t4 n i4.1
  obtain ⟨t5, ht5⟩ : ∃ t5, t4.breaks = t5 := ⟨_, rfl⟩
  rw [ht5] at HBR hR i5
  have ho5 : t5.opn = s.opn + 1 := by have := i1.2.2.1; have := i2.2.2.1; have := i3.2.2.1; have := i4.2.2.1; have := i5.2.2.1; omega
  have hp5 : pot t5 ≤ pot s := by have := i1.2.2.2; have := i2.2.2.2; have := i3.2.2.2; have := i4.2.2.2; have := i5.2.2.2; omega
  have HCP := Lib.hid (fun (w : World) (K : Nat → Prop) (nv : Value) (h : PM w n K p g cap all nv t5) => compound_any hL HL h (by omega) (by omega) (by omega))
  have i6 := compound_st hL t5 n i5.1
  obtain ⟨c, hc⟩ : ∃ c, compound L t5 = c := ⟨_, rfl⟩
  rw [hc] at HCP hR i6
  have HLV := Lib.hid (fun (w : World) (K : Nat → Prop) (nv : Value) (h : PM w n K p g cap all nv c.2) => leave_any h ⟨by have := i6.2.2.1; omega, by have := i6.2.2.1; omega⟩)
  have HDP := Lib.hid (show pot c.2.leave + 1 ≤ 100000 by have := i6.2.2.2; show pot c.2 + 1 ≤ _; omega)
  have HV := Lib.hid hR
  clear hR ht1 hm ht3 ht4 ht5 hc i1 i2 i3 i4 i5 i6 ho5 hp5 hp ho ho2 hL HL h
  go_enter Try.func63, Try.ntmps63
  go_upto_region 6 with (first | (go_at_call 65; (with_reducible refine HEN.out.mono ?_); rintro e w1 ⟨rfl, hP, hF⟩; have H1 := Lib.hid hP; have G1 := Lib.hid (Go.of (nv := nv) (K := K) hF); clear hP hF HEN) | (go_at_call 75; (with_reducible refine (HNM.out _ _ _ H1.out).mono ?_); rintro e w2 ⟨rfl, hP, hF⟩; have HC2 := Lib.hid (CN.start hP (G1.out.call hF) 15 m.1); clear hP hF) | (go_at_call 68; (with_reducible refine (HE1.out _ _ _ HC2.out.pm).mono ?_); rintro e w3 ⟨rfl, hP, hF⟩; have HC3 := Lib.hid (HC2.out.call hP hF); clear hP hF HE1 HC2) | (go_at_call 68; (with_reducible refine (HE2.out _ _ _ HC3.out.pm).mono ?_); rintro e w4 ⟨rfl, hP, hF⟩; have HC4 := Lib.hid (HC3.out.call hP hF); clear hP hF) | (go_at_call 22; (with_reducible refine (HBR.out _ _ _ HC4.out.pm).mono ?_); rintro e w5 ⟨rfl, hP, hF⟩; have HC5 := Lib.hid (HC4.out.call hP hF); clear hP hF))
  go_upto_region 7 with (first | (go_at_call 61; (with_reducible refine (HCP.out _ _ _ HC5.out.pm).mono ?_); rintro e w6 ⟨rfl, nv6, K6, hP, hG⟩; have HC6 := Lib.hid ((HC5.out.node hP hG).call0 ((Fr.refl _ w6).alloc (.cells #[.int .i64 c.1] 3))); have HR6 := Lib.hid (ints_new w6 [c.1] (by simp)); have HZ6 := Lib.hid (Nat.le_trans HC5.out.go.fr.size hG.fr.size); have HB6 := Lib.hid hP.x.kb; obtain ⟨x0, x1, x2, x3, x4, x5, x6, x7⟩ := HC6.out.cells; have z7 := HC6.out.fz 7; clear hP hG HC5))
  clear x0 x1 x2 x3 x4 x5 x6 x7 z7
  have hr7 : Ints (w6.alloc (.cells #[.int .i64 c.1] 3)) (own1 (.slice (some ⟨w6.heap.size, 0, none⟩) 1 1)) (.slice (some ⟨w6.heap.size, 0, none⟩) 1 1) [c.1] := HR6.out
  have HC7 := Lib.hid (HC6.out.setKids hr7 (fun k e => by have e' : some w6.heap.size = some k := e; cases e'; exact HZ6.out) (fun k e hk => by have e' : some w6.heap.size = some k := e; cases e'; have := HB6.out _ hk; omega) (fun k e => (ownz_type hr7.1 e).2.1))
  generalize (w6.alloc (.cells #[.int .i64 c.1] 3)).setCell ⟨w2.heap.size, 7, none⟩ (.slice (some ⟨w6.heap.size, 0, none⟩) 1 1) = w7 at *
  go_upto_region 8 with (first | (go_at_call 72; (with_reducible refine (HLV.out _ _ _ HC7.out.pm).mono ?_); rintro e w8 ⟨rfl, hP, hF⟩; have HC8 := Lib.hid (HC7.out.call hP hF); clear hP hF))
  obtain ⟨x0, x1, x2, x3, x4, x5, x6, x7⟩ := HC8.out.cells
  go_wp2_with (first | (go_at_call 42; (with_reducible refine (HC8.out.done HDP.out).mono ?_); rintro e wd ⟨rfl, hq⟩; have HQ := Lib.hid hq; clear hq))
  go_ret
  rw [← HV.out]
  exact ⟨rfl, HQ.out⟩
set_option maxHeartbeats 4000000 in
theorem command_any {L : S → Int × S} {o : Nat} {bd : Int} (hL : Lst L) (HL : LCon L n p g cap all o bd) (h : PM W n K p g cap all nv s) (ho : o ≤ s.opn + 1) (ho2 : s.opn ≤ 800) (hp : pot s + 90 ≤ bd ∧ bd ≤ 60000) :
    Calls Try.prog 59 #[.pointer (some ⟨p, 0, none⟩)] W (NodePost W n K p g cap all nv (command L s)) := by
  have HN := Lib.hid (next_any h)
  have HK := Lib.hid (fun w => cKind_any s.hd.text w)
  have H := Lib.hid h
  obtain ⟨R, hR⟩ : ∃ R, command L s = R := ⟨_, rfl⟩
  rw [hR]
  unfold command at hR
  have HF := Lib.hid (fun (w : World) (h : PM w n K p g cap all nv s) => bFun_any h)
  by_cases hk : cKind s.hd.text = 0
  · rw [if_pos hk] at hR
    rw [hk] at HK
    cases hb : s.bFun with
    | true =>
      rw [if_pos hb] at hR
      rw [hb] at HF
      have HFN := Lib.hid (fun (w : World) (h : PM w n K p g cap all nv s) => function_any hL HL h ho ho2 hp)
      rw [hR] at HFN
      clear hR hb hk h hL HL ho ho2 hp
      go_enter Try.func59, Try.ntmps59
      go_wp2_with (first | (refine wpList_field rfl _ _ rfl _ _ _ rfl _ rfl ?_) | (go_at_call 25; (with_reducible refine HN.out.mono ?_); rintro e w1 ⟨rfl, hF⟩; have H1 := Lib.hid (H.out.fr hF); have G1 := Lib.hid (Go.of0 (p := p) (nv := nv) (K := K) hF); clear hF) | (go_at_call 38; (with_reducible refine (HK.out _).mono ?_); rintro e w9 ⟨rfl, rfl⟩) | (go_at_call 62; (with_reducible refine (HF.out _ H1.out).mono ?_); rintro e w2 ⟨rfl, hF⟩; have H2 := Lib.hid (H1.out.fr hF); have G2 := Lib.hid (G1.out.call0 hF); clear hF) | (go_at_call 63; (with_reducible refine (HFN.out _ H2.out).mono ?_); rintro e w3 ⟨rfl, nv3, K3, hP, hG⟩; have H3 := Lib.hid hP; have G3 := Lib.hid (G2.out.trans hG); clear hP hG))
      go_ret
      exact ⟨rfl, _, _, H3.out, G3.out⟩
    | false =>
      rw [if_neg (by rw [hb]; decide)] at hR
      rw [hb] at HF
      have HFN := Lib.hid (fun (w : World) (h : PM w n K p g cap all nv s) => simple_any h (by omega))
      rw [hR] at HFN
      clear hR hb hk h hL HL ho ho2 hp
      go_enter Try.func59, Try.ntmps59
      go_wp2_with (first | (refine wpList_field rfl _ _ rfl _ _ _ rfl _ rfl ?_) | (go_at_call 25; (with_reducible refine HN.out.mono ?_); rintro e w1 ⟨rfl, hF⟩; have H1 := Lib.hid (H.out.fr hF); have G1 := Lib.hid (Go.of0 (p := p) (nv := nv) (K := K) hF); clear hF) | (go_at_call 38; (with_reducible refine (HK.out _).mono ?_); rintro e w9 ⟨rfl, rfl⟩) | (go_at_call 62; (with_reducible refine (HF.out _ H1.out).mono ?_); rintro e w2 ⟨rfl, hF⟩; have H2 := Lib.hid (H1.out.fr hF); have G2 := Lib.hid (G1.out.call0 hF); clear hF) | (go_at_call 64; (with_reducible refine (HFN.out _ H2.out).mono ?_); rintro e w3 ⟨rfl, nv3, K3, hP, hG⟩; have H3 := Lib.hid hP; have G3 := Lib.hid (G2.out.trans hG); clear hP hG))
      go_ret
      exact ⟨rfl, _, _, H3.out, G3.out⟩
  · rw [if_neg hk] at hR
    have hk2 : (cKind s.hd.text != 0) = true := by rw [bne_iff_ne]; exact hk
    have HFN := Lib.hid (fun (w : World) (h : PM w n K p g cap all nv s) => compound_any hL HL h ho (by omega) (by omega))
    rw [hR] at HFN
    clear hR hk h hL HL ho ho2 hp
    go_enter Try.func59, Try.ntmps59
    go_wp2_with (first | (refine wpList_field rfl _ _ rfl _ _ _ rfl _ rfl ?_) | (go_at_call 25; (with_reducible refine HN.out.mono ?_); rintro e w1 ⟨rfl, hF⟩; have H1 := Lib.hid (H.out.fr hF); have G1 := Lib.hid (Go.of0 (p := p) (nv := nv) (K := K) hF); clear hF) | (go_at_call 38; (with_reducible refine (HK.out _).mono ?_); rintro e w9 ⟨rfl, rfl⟩) | (go_at_call 61; (with_reducible refine (HFN.out _ H1.out).mono ?_); rintro e w3 ⟨rfl, nv3, K3, hP, hG⟩; have H3 := Lib.hid hP; have G3 := Lib.hid (G1.out.trans hG); clear hP hG))
    go_ret
    exact ⟨rfl, _, _, H3.out, G3.out⟩
end
end Go.Proofs.Ytoahgblgchmclaa
