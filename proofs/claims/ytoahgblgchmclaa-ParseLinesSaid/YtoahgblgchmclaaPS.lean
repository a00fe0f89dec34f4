/- The lists of a compound. -/
import Derived.Test.YtoahgblgchmclaaPR
namespace Go.Proofs.Ytoahgblgchmclaa
open Go.RowKit
set_option linter.unusedVariables false
set_option linter.unusedSimpArgs false
section
variable {W w w' : World} {n p g cap : Nat} {K Kt K2 : Nat → Prop} {all : List Tk} {nv nvt nv2 kv x : Value} {s t u : S} {ks : List Int}
theorem strs_at {b len cp : Nat} {l : List Bs} (h : Strs w K (.slice (some ⟨b, 0, none⟩) len cp) l) (i : Nat) (t : Bs) (ht : l[i]? = some t) : w.cell? ⟨b, i, none⟩ = some (.string (st t)) := by
  obtain ⟨_, _, e, _⟩ := ownz_form h.1
  injection e with e1 e2 e3
  subst e2
  have h1 : w.ownsRow 0 9 1 (.slice (some ⟨b, 0, none⟩) l.length cp) l.length (l.map strV) := h.1
  have hl := (List.getElem?_eq_some_iff.1 ht).1
  rw [h1.cellAt i (by omega), List.getElem?_map, ht]
  rfl
def lsRel (W : World) (n : Nat) (K : Nat → Prop) (p g cap : Nat) (all : List Tk) (nv : Value) (L : S → Int × S) (s : S) (wv : Value) (w0 : Bs) (ws : List Bs) (R : List Int × S) (kv iv : Value) (wr : World) : Prop :=
  ∃ (i : Nat) (ks : List Int) (t : S) (nvt : Value) (Kt : Nat → Prop), iv = .int .i64 i ∧ i ≤ ws.length ∧ KR W n K p g cap all nv wr t nvt Kt kv ks ∧ Strs wr (own1 wv) wv (w0 :: ws) ∧ listsG L (ws.drop i) ks t = R ∧ t.opn = s.opn ∧ pot t ≤ pot s + 5 * i ∧ ks.length = i
set_option maxHeartbeats 4000000 in
theorem lists_any {L : S → Int × S} {o : Nat} {bd : Int} (hL : Lst L) (HL : LCon L n p g cap all o bd) (h : PM W n K p g cap all nv s) (b wc : Nat) (w0 : Bs) (ws : List Bs) (hw : Strs W (own1 (.slice (some ⟨b, 0, none⟩) (ws.length + 1) wc)) (.slice (some ⟨b, 0, none⟩) (ws.length + 1) wc) (w0 :: ws)) (hne : ∀ x ∈ w0 :: ws, ¬ x = []) (hws : 0 < ws.length ∧ ws.length ≤ 10) (ho : o ≤ s.opn) (ho2 : s.opn ≤ 25) (hp : pot s + 60 ≤ bd ∧ bd ≤ 60000) :
    Calls Try.prog 66 #[.pointer (some ⟨p, 0, none⟩), .slice (some ⟨b, 0, none⟩) (ws.length + 1) wc] W (RowPost W n K p g cap all nv (listsG L ws [] (s.need w0))) := by
  have H := Lib.hid h
  have hcap : ws.length + 1 ≤ wc := by
    obtain ⟨_, _, h1, h2, _⟩ := ownz_form hw.1
    cases h1
    exact h2
  have hcm : wc ≤ 9223372036854775807 := by
    obtain ⟨_, _, h1, h2, h3, _⟩ := ownz_form hw.1
    cases h1
    exact h3
  have k0 := strs_at hw 0 w0 rfl
  have HX := Lib.hid (expect_any h (st w0) w0 rfl (hne w0 (by simp)))
  obtain ⟨R, hR⟩ : ∃ R, listsG L ws [] (s.need w0) = R := ⟨_, rfl⟩
  rw [hR]
  have hst := need_st s (hne w0 (by simp)) n h.x.inv
  have HST := Lib.hid (show (s.need w0).opn = s.opn ∧ pot (s.need w0) ≤ pot s from ⟨by have := hst.2.2.1; omega, by have := hst.2.2.2; omega⟩)
  have HR0 := Lib.hid hR
  have HW := Lib.hid hw
  have HTP := Lib.hid h.tp
  obtain ⟨hws1, hws2⟩ := hws
  have hne1 : ¬ (wc = 1) := by omega
  clear h hR hw hst
  go_enter Try.func66, Try.ntmps66
  go_wp2_with (first | (go_at_call 68; (with_reducible refine HX.out.mono ?_); rintro e w1 ⟨rfl, hP1, hF1⟩; have HK1 := Lib.hid ((KR.start H.out).call hP1 hF1); have HW1 := Lib.hid (HW.out.fr hF1 HTP.out); clear hP1 hF1))
  go_loopw [5, 7, 16] (fun kv _ iv wr => lsRel W n K p g cap all nv L s (.slice (some ⟨b, 0, none⟩) (ws.length + 1) wc) w0 ws R kv iv wr) (fun _ _ iv _ => ws.length - (intOf iv).toNat)
  case atStart => exact ⟨0, [], s.need w0, nv, K, rfl, Nat.zero_le _, HK1.out, HW1.out, HR0.out, HST.out.1, by have := HST.out.2; omega, rfl⟩
  case round =>
    obtain ⟨i, ks, t, nvt, Kt, rfl, hi, hK, hW, hr, hopn, hpot, hkl⟩ := hrel
    have HK := Lib.hid hK
    have HW := Lib.hid hW
    clear HK1 HW1 HR0 HST
    by_cases hlt : i < ws.length
    · obtain ⟨wd, hwd⟩ : ∃ wd, ws[i]? = some wd := ⟨_, List.getElem?_eq_getElem hlt⟩
      have hdr : ws.drop i = wd :: ws.drop (i + 1) := by
        rw [List.drop_eq_getElem_cons hlt]
        rw [List.getElem?_eq_getElem hlt] at hwd
        cases hwd
        rfl
      rw [hdr, listsG] at hr
      have HV := Lib.hid hr
      have c1 := strs_at hW (i + 1) wd (by simpa using hwd)
      have hwn : ¬ wd = [] := hne wd (by simp [List.mem_of_getElem? hwd])
      have HLC := Lib.hid (HL wr Kt nvt t hK.pm (by omega) (by omega) (by omega))
      have hLt := hL t n hK.pm.x.inv
      have hopn2 : (L t).2.opn = s.opn := by have := hLt.2.2.1; omega
      have hpot2 : pot (L t).2 ≤ pot s + 5 * (i + 1 : Nat) := by have := hLt.2.2.2; omega
      have hnd := need_st (L t).2 hwn n hLt.1
      have hopn3 : ((L t).2.need wd).opn = s.opn := by have := hnd.2.2.1; omega
      have hpot3 : pot ((L t).2.need wd) ≤ pot s + 5 * (i + 1 : Nat) := by have := hnd.2.2.2; omega
      have HE := Lib.hid (fun (w : World) (K : Nat → Prop) (nv : Value) (h : PM w n K p g cap all nv (L t).2) => expect_any h (st wd) wd rfl hwn)
      have HOT := Lib.hid (⟨hopn3, hpot3⟩ : _ ∧ _)
      have HKL := Lib.hid hkl
      clear hkl
      clear hK hW hr hdr hLt hnd hne hwd hopn hpot hopn2 hpot2 hopn3 hpot3 hL HL hp ho ho2 k0 hwn
      rw [Nat.add_comm i 1] at c1
      go_wp2_with (first | (go_at_call 24; (with_reducible refine HLC.out.mono ?_); rintro e w2 ⟨rfl, nv2, K2, hP2, hG2⟩; have HW2 := Lib.hid (HK.out.pm.strs hG2 HW.out); have HK2 := Lib.hid (HK.out.node hP2 hG2); clear hP2 hG2) | (at_builtin; refine wpList_int rfl _ _ rfl ks (L t).1 rfl rfl rfl HK2.out.row (by have := HKL.out; omega) ?_; intro g3 c3 w3 hr3 hat3 hF3; have HW3 := Lib.hid (HW2.out.keep hF3 (own_ne HW2.out.1 HK2.out.row.1 (by decide))); have HK3 := Lib.hid (HK2.out.app hF3 hr3 hat3); clear hr3 hat3 hF3) | (go_at_call 68; (with_reducible refine (HE.out _ _ _ HK3.out.pm).mono ?_); rintro e w4 ⟨rfl, hP4, hF4⟩; have HW4 := Lib.hid (HW3.out.fr hF4 HK3.out.pm.tp); have HK4 := Lib.hid (HK3.out.call hP4 hF4); clear hP4 hF4))
      go_roundw
      case rel => exact ⟨i + 1, _, _, _, _, by go_num, hlt, HK4.out, HW4.out, HV.out, HOT.out.1, HOT.out.2, by rw [List.length_append, HKL.out]; rfl⟩
      case measure => simp [intOf]; omega
    · obtain rfl : i = ws.length := by omega
      rw [List.drop_length, listsG] at hr
      have HV := Lib.hid hr
      clear hK hW hr
      go_wp2
      go_ret
      rw [← HV.out]
      exact ⟨_, _, _, rfl, HK.out⟩
end
end Go.Proofs.Ytoahgblgchmclaa
