/- Redirections behind a compound. -/
import Derived.Test.YtoahgblgchmclaaPN
namespace Go.Proofs.Ytoahgblgchmclaa
open Go.RowKit
set_option linter.unusedVariables false
set_option linter.unusedSimpArgs false
/-- a row that has been made since. -/
def Fresh (W : World) (v : Value) : Prop := ∀ k, v.ownBlock = some k → W.heap.size ≤ k
theorem Fresh.nil (W : World) : Fresh W (.slice none 0 0) := fun k e => by cases e
theorem Fresh.more {W w : World} {v : Value} {g' n' cap : Nat} (h : Fresh W v) (hs : W.heap.size ≤ w.heap.size) (hat : v.ownBlock = some g' ∨ g' = w.heap.size + 1) : Fresh W (.slice (some ⟨g', 0, none⟩) n' cap) := fun k e => by
  have e' : some g' = some k := e
  cases e'
  rcases hat with e | e
  · exact h _ e
  · omega
section
variable {W W' w w' : World} {n p g cap : Nat} {K : Nat → Prop} {all : List Tk} {nv : Value} {s t : S}
theorem PM.mine (h : PM W n K p g cap all nv s) {v : Value} (hf : Fresh W v) : Mine K v := fun k e hk => by
  have := h.x.kb k hk
  have := hf k e
  omega
/-- fresh rows may change. -/
theorem Fr.app {v : Value} (f : Fr (· = p) W w) (f2 : Fr (own1 v) w w') (hf : Fresh W v) : Fr (· = p) W w' :=
  ⟨f2.os.trans f.os, f2.tape.trans f.tape, f2.output.trans f.output, Nat.le_trans f.size f2.size, fun i hi hn => (f2.block i (Nat.lt_of_lt_of_le hi f.size) (fun e => by have := hf i e; omega)).trans (f.block i hi hn)⟩
def rdRel (W : World) (n : Nat) (K : Nat → Prop) (p g cap : Nat) (all : List Tk) (nv : Value) (R : List Rd × S) (lv : Value) (wr : World) : Prop :=
  ∃ l t m, PM wr n K p g cap all nv t ∧ Fr (· = p) W wr ∧ Rds wr (own1 lv) lv l ∧ Fresh W lv ∧ redirsG m l t = R ∧ t.ts.length ≤ m ∧ l.length + t.ts.length ≤ 6000
set_option maxHeartbeats 2000000 in
theorem redirs_any (h : PM W n K p g cap all nv s) :
    Calls Try.prog 73 #[.pointer (some ⟨p, 0, none⟩)] W fun e w' => ∃ v, e = .returned v ∧ Rds w' (own1 v) v s.redirs.1 ∧ Fresh W v ∧ PM w' n K p g cap all nv s.redirs.2 ∧ Fr (· = p) W w' := by
  have H := Lib.hid h
  obtain ⟨R, hR⟩ : ∃ R, s.redirs = R := ⟨_, rfl⟩
  rw [hR]
  have HR0 := Lib.hid (show redirsG s.ts.length [] s = R from hR)
  have hl0 := h.x.facts.2.2.2.2.1
  clear h hR
  go_enter Try.func73, Try.ntmps73
  go_wp2
  go_loopw [3] (fun lv wr => rdRel W n K p g cap all nv R lv wr) (fun _ wr => leftOf wr p)
  case atStart => exact ⟨[], s, _, H.out, Fr.refl _ _, Rds.nil _ _, Fresh.nil _, HR0.out, Nat.le_refl _, by simp; omega⟩
  case round =>
    obtain ⟨l, t, m, hP, hF, hrow, hfr, hr, hm, hlen⟩ := hrel
    clear HR0
    have HP := Lib.hid hP
    have HF := Lib.hid hF
    have HROW := Lib.hid hrow
    have HFR := Lib.hid hfr
    have HM := Lib.hid hP.left
    have hpos := hP.x.inv.good.ne
    obtain ⟨m, rfl⟩ : ∃ m', m = m' + 1 := ⟨m - 1, by omega⟩
    rw [redirsG] at hr
    have HN := Lib.hid (next_any hP)
    have HB := Lib.hid (fun w => bRedir_hd t.hd w)
    cases hb : bRedir t.hd with
    | true =>
      rw [if_pos hb] at hr
      have HV := Lib.hid hr
      have HD := Lib.hid (fun (w : World) (h : PM w n K p g cap all nv t) => redir_any' h hb)
      have hst := redir_st hb n hP.x.inv
      have hlt : t.redir.2.ts.length + 1 ≤ t.ts.length := by
        have h1 := hst.2.2.2
        have h2 := redir_ns t
        unfold pot at h1
        rw [h2] at h1
        omega
      rw [hb] at HB
      clear hP hF hrow hfr hr hb hst
      go_wp2_with (first | (go_at_call 25; (with_reducible refine HN.out.mono ?_); rintro e w1 ⟨rfl, hF1⟩; have HF1 := Lib.hid (HF.out.trans (hF1.mono fun _ _ h => h.elim)); have HP1 := Lib.hid (HP.out.fr hF1); have HROW1 := Lib.hid (HROW.out.fr hF1 (Tp.none _)); clear hF1) | (go_at_call 39; (with_reducible refine (HB.out _).mono ?_); rintro e w2 ⟨rfl, hF2⟩; have HF2 := Lib.hid (HF1.out.trans (hF2.mono fun _ _ h => h.elim)); have HP2 := Lib.hid (HP1.out.fr hF2); have HROW2 := Lib.hid (HROW1.out.fr hF2 (Tp.none _)); clear hF2) | (go_at_call 76; (with_reducible refine (HD.out _ HP2.out).mono ?_); rintro e w3 ⟨rfl, hP3, hF3⟩; have HROW3 := Lib.hid (HROW2.out.fr hF3 HP2.out.tp); have HF3 := Lib.hid (HF2.out.trans hF3); have HP3 := Lib.hid hP3; clear hP3 hF3) | (at_builtin; refine wpList_rd rfl _ _ rfl l t.redir.1 rfl rfl rfl HROW3.out (by omega) ?_; intro g4 cap4 w4 hrow4 hat4 hF4; have HROW4 := Lib.hid hrow4; have HP4 := Lib.hid (HP3.out.app hF4 HROW3.out.1 (fun k e hk => by have h1 := HFR.out k e; have h2 := H.out.x.kb k hk; omega) ⟨by decide, by decide, by decide⟩); have HF4 := Lib.hid (HF3.out.app hF4 HFR.out); have HFR4 := Lib.hid (show Fresh W (.slice (some ⟨g4, 0, none⟩) (l.length + 1) cap4) from HFR.out.more HF3.out.size hat4); clear hrow4 hat4 hF4))
      refine ⟨⟨_, _, m, HP4.out, HF4.out, HROW4.out, HFR4.out, HV.out, by omega, by rw [List.length_append]; simp; omega⟩, ?_⟩
      rw [HP4.out.left, HM.out]
      omega
    | false =>
      rw [if_neg (by rw [hb]; decide)] at hr
      have HV := Lib.hid hr
      rw [hb] at HB
      clear hP hF hrow hfr hr hb
      go_wp2_with (first | (go_at_call 25; (with_reducible refine HN.out.mono ?_); rintro e w1 ⟨rfl, hF1⟩; have HF1 := Lib.hid (HF.out.trans (hF1.mono fun _ _ h => h.elim)); have HP1 := Lib.hid (HP.out.fr hF1); have HROW1 := Lib.hid (HROW.out.fr hF1 (Tp.none _)); clear hF1) | (go_at_call 39; (with_reducible refine (HB.out _).mono ?_); rintro e w2 ⟨rfl, hF2⟩; have HF2 := Lib.hid (HF1.out.trans (hF2.mono fun _ _ h => h.elim)); have HP2 := Lib.hid (HP1.out.fr hF2); have HROW2 := Lib.hid (HROW1.out.fr hF2 (Tp.none _)); clear hF2))
      go_ret
      rw [← HV.out]
      exact ⟨_, rfl, HROW2.out, HFR.out, HP2.out, HF2.out⟩
end
end Go.Proofs.Ytoahgblgchmclaa
