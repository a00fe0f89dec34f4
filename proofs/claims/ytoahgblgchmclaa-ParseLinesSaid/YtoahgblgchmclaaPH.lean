/- Line feeds, what is open, a node that is listed. -/
import Derived.Test.YtoahgblgchmclaaPG
import Derived.Deep.RegionLaw
namespace Go.Proofs.Ytoahgblgchmclaa
open Go.RowKit
set_option linter.unusedVariables false
set_option linter.unusedSimpArgs false
section
variable {W W' : World} {n p g cap : Nat} {K : Nat → Prop} {all : List Tk} {nv : Value} {s : S}
/-- how many tokens are left. -/
def leftOf (W : World) (p : Nat) : Nat := match W.cell? ⟨p, 0, none⟩ with
  | some (.slice _ l _) => l
  | _ => 0
theorem PM.left (h : PM W n K p g cap all nv s) : leftOf W p = s.ts.length := by
  unfold leftOf
  rw [h.cells.1]
def brRel (W : World) (n : Nat) (K : Nat → Prop) (p g cap : Nat) (all : List Tk) (nv : Value) (r : S) (wr : World) : Prop :=
  ∃ s, PM wr n K p g cap all nv s ∧ Fr (· = p) W wr ∧ s.breaks = r
theorem breaks_any (h : PM W n K p g cap all nv s) :
    Calls Try.prog 22 #[.pointer (some ⟨p, 0, none⟩)] W fun e w' => e = .returned (.tuple #[]) ∧ PM w' n K p g cap all nv s.breaks ∧ Fr (· = p) W w' := by
  have H := Lib.hid h
  obtain ⟨r, hr⟩ : ∃ r, s.breaks = r := ⟨_, rfl⟩
  rw [hr]
  have HR0 := Lib.hid hr
  clear h hr
  go_enter Try.func22, Try.ntmps22
  go_wp2
  go_loopw [] (fun wr => brRel W n K p g cap all nv r wr) (fun wr => leftOf wr p)
  case atStart => exact ⟨s, H.out, Fr.refl _ _, HR0.out⟩
  case round =>
    obtain ⟨t, hR, hF, hr⟩ := hrel
    clear H HR0
    have HR := Lib.hid hR
    have HF := Lib.hid hF
    have HM := Lib.hid hR.left
    have HT := Lib.hid (takes_any hR ⟨#[10]⟩ [10] rfl (by decide))
    cases hb : t.is [10] with
    | true =>
      rw [hb] at HT
      have HV := Lib.hid (show (t.may [10]).breaks = r ∧ (t.may [10]).ts.length < t.ts.length by
        have e : t.may [10] = t.adv := by unfold S.may; rw [if_pos hb]
        rw [e]
        refine ⟨by rw [← hr, breaks_cons hb], ?_⟩
        have := hR.x.inv.good.ne
        show t.ts.tail.length < _
        rw [List.length_tail]; omega)
      clear hR hF hr hb
      go_wp2_with (first | (go_at_call 37; (with_reducible refine HT.out.mono ?_); rintro e w1 ⟨rfl, hP, hF1⟩; have HP1 := Lib.hid hP; have HF1 := Lib.hid (HF.out.trans hF1); clear hP hF1))
      refine ⟨⟨_, HP1.out, HF1.out, HV.out.1⟩, ?_⟩
      rw [HP1.out.left, HM.out]
      exact HV.out.2
    | false =>
      rw [hb] at HT
      have HV := Lib.hid (show t.may [10] = r by
        have e : t.may [10] = t := by unfold S.may; rw [if_neg (by rw [hb]; decide)]
        rw [e, ← hr, breaks_stop hb])
      clear hR hF hr hb
      go_wp2_with (first | (go_at_call 37; (with_reducible refine HT.out.mono ?_); rintro e w1 ⟨rfl, hP, hF1⟩; have HP1 := Lib.hid hP; have HF1 := Lib.hid (HF.out.trans hF1); clear hP hF1))
      refine bodyPost_end (results_none rfl _ _ _) rfl ?_
      exact ⟨rfl, by rw [← HV.out]; exact HP1.out, HF1.out⟩
theorem enter_any (h : PM W n K p g cap all nv s) (ho : s.opn ≤ 1000) :
    Calls Try.prog 65 #[.pointer (some ⟨p, 0, none⟩)] W fun e w' => e = .returned (.tuple #[]) ∧ PM w' n K p g cap all nv s.enter ∧ Fr (· = p) W w' := by
  have key : ∀ (W1 : World) (s1 : S), PM W1 n K p g cap all nv s1 → PM (W1.setCell ⟨p, 2, none⟩ (.int .i64 ((s1.opn : Int) + 1))) n K p g cap all nv { s1 with opn := s1.opn + 1 } := fun W1 s1 h1 =>
    h1.step (o := 1) (fun m hi => ⟨⟨hi.good, hi.one, hi.at_le⟩, ⟨List.suffix_refl _, List.prefix_refl _, fun _ => ⟨rfl, rfl⟩⟩, by show ((s1.opn + 1 : Nat) : Int) = _; omega, by show pot s1 ≤ _; omega⟩) rfl (Fr.one _ _ _ _) (heap_set h1.cell 2 _)
  have HK := Lib.hid key
  by_cases h24 : 24 < s.opn
  · have HE := Lib.hid (show s.enter = { s.fail with opn := s.fail.opn + 1 } by unfold S.enter; rw [if_pos h24]; have : s.fail.opn = s.opn := by { unfold S.fail; split <;> rfl }; rw [this])
    have HL := Lib.hid (fail_any h)
    obtain ⟨c0, c1, c2, c3, c4, fz⟩ := h.cells
    have H := Lib.hid h
    have hfo : s.fail.opn = s.opn := by unfold S.fail; split <;> rfl
    clear h key c0 c1 c3 c4 fz
    go_enter Try.func65, Try.ntmps65
    go_wp2_with (first | (go_at_call 26; (with_reducible refine HL.out.mono ?_); rintro e w1 ⟨rfl, hP, hF1⟩; obtain ⟨d0, d1, d2, d3, d4, fz⟩ := hP.cells; have f2 := fz 2; rw [hfo] at d2; have HP1 := Lib.hid hP; have HF1 := Lib.hid hF1; clear hP hF1 d0 d1 d3 d4 fz c2))
    refine bodyPost_end (results_none rfl _ _ _) rfl ?_
    refine ⟨rfl, ?_, HF1.out.set 2 _⟩
    rw [HE.out]
    have := HK.out _ _ HP1.out
    rw [hfo] at this ⊢
    exact this
  · have HE := Lib.hid (show s.enter = { s with opn := s.opn + 1 } by unfold S.enter; rw [if_neg h24])
    obtain ⟨c0, c1, c2, c3, c4, fz⟩ := h.cells
    have f2 := fz 2
    have H := Lib.hid h
    clear h key c0 c1 c3 c4 fz
    go_enter Try.func65, Try.ntmps65
    go_wp2
    refine bodyPost_end (results_none rfl _ _ _) rfl ?_
    exact ⟨rfl, by rw [HE.out]; exact HK.out _ _ H.out, Fr.one _ _ _ _⟩
theorem leave_any (h : PM W n K p g cap all nv s) (ho : 0 < s.opn ∧ s.opn ≤ 1000) :
    Calls Try.prog 72 #[.pointer (some ⟨p, 0, none⟩)] W fun e w' => e = .returned (.tuple #[]) ∧ PM w' n K p g cap all nv s.leave ∧ Fr (· = p) W w' := by
  have HK := Lib.hid (show PM (W.setCell ⟨p, 2, none⟩ (.int .i64 ((s.opn : Int) - 1))) n K p g cap all nv s.leave from
    h.step (leave_st ho.1) rfl (Fr.one _ _ _ _) (by
      have := heap_set h.cell 2 (.int .i64 ((s.opn : Int) - 1))
      have e : ((s.opn : Int) - 1) = ((s.opn - 1 : Nat) : Int) := by omega
      rw [e] at this ⊢
      exact this))
  obtain ⟨c0, c1, c2, c3, c4, fz⟩ := h.cells
  have f2 := fz 2
  clear h c0 c1 c3 c4 fz
  go_enter Try.func72, Try.ntmps72
  go_wp2
  refine bodyPost_end (results_none rfl _ _ _) rfl ?_
  exact ⟨rfl, HK.out, Fr.one _ _ _ _⟩
end
end Go.Proofs.Ytoahgblgchmclaa
