/- The statement ModeChanges: every Change, of any text and number, answers as the document says: the law's call returns true, for every input. -/
import Derived.Test.YtmjjhoaplcjjcaaRows
import Derived.WalkKit
import Derived.ProofKit
import Derived.OpenShut
import Derived.ChangeOld
import Derived.Below
import Derived.Test.YtmjjhoaplcjjcaaM
import Derived.Test.YtmjjhoaplcjjcaaW10
import Derived.Test.YtmjjhoaplcjjcaaW11
import Derived.SizedLaws
import Derived.ShutString
namespace Go.Proofs.Ytmjjhoaplcjjcaa.modeChanges
open Go.ChangeShapes Go.WideShapes Go.ChangeAt Go.RowKit
open Go.ChangeMaps (open_string shut_string)
set_option linter.unusedVariables false      -- a walk need not use every 'w<i>' (that an integer argument fits its kind)

theorem laidOut : laidOutB Try.prog = true := by kernel_rfl
theorem own : ownKnob Try.prog.godebug = none := by kernel_rfl

set_option maxHeartbeats 1000000 in
theorem walk (a0 : ByteArray) (a1 : Int) (a2 : Bool) (w0 : a0.size ≤ maxLen) (w1 : (Lit.int .i64 a1).wf = true) (hreach0 : a0.size ≤ 140737488351232) (w : World) :
    Calls Try.prog 5 #[.string a0, .int .i64 a1, .bool a2] w fun e w' => e = .returned (.bool true) ∧ Below w.heap.size w w' := by
  have e1 := refRight_eq a1 (wf_range w1)
  have e2 : (if refRightB a1 = true then changeS a0.data.toList a1 a2 else none) = changeS a0.data.toList a1 a2 := by
    rw [e1]
    cases h : rightB a1
    · rw [if_neg Bool.false_ne_true]; unfold changeS; rw [h, if_neg Bool.false_ne_true]
    · rw [if_pos rfl]
  cases hc : changeS a0.data.toList a1 a2 with
  | none =>
    have E2 := Lib.hid (e2.trans hc)
    have Hc := Lib.hid hc
    clear e1 e2 hc
    go_enter Try.func5, Try.ntmps5
    go_wp2_with (first | (go_at_call 11; refine (shown_any _).mono ?_; rintro e w' ⟨rfl, hbel⟩) | (go_at_call 20; refine (change_any _ _ _ w0 _).mono ?_; rintro e w' ⟨rfl, n, rfl⟩; rw [Hc.out]; unfold optV) | (go_at_call 21; refine (refChange_any _ _ _ hreach0 _).mono ?_; rintro e w' ⟨rfl, hb⟩; rw [E2.out]; unfold optV))
    go_ret
    exact ⟨rfl, (hbel.trans ((below_drewN (Below.refl _ _) n).mono hbel.size)).trans (hb.mono hbel.size)⟩
  | some v =>
    have E2 := Lib.hid (e2.trans hc)
    have Hc := Lib.hid hc
    clear e1 e2 hc
    go_enter Try.func5, Try.ntmps5
    go_wp2_with (first | (go_at_call 11; refine (shown_any _).mono ?_; rintro e w' ⟨rfl, hbel⟩) | (go_at_call 20; refine (change_any _ _ _ w0 _).mono ?_; rintro e w' ⟨rfl, n, rfl⟩; rw [Hc.out]; unfold optV) | (go_at_call 21; refine (refChange_any _ _ _ hreach0 _).mono ?_; rintro e w' ⟨rfl, hb⟩; rw [E2.out]; unfold optV))
    go_ret
    exact ⟨rfl, (hbel.trans ((below_drewN (Below.refl _ _) n).mono hbel.size)).trans (hb.mono hbel.size)⟩

set_option maxRecDepth 100000 in
theorem lifted (os : Os) (started : os.Started) (H : Type) (enc : TypeId × Value → H) :
    ReturnsInHanded {} Try.checked os 5 .any (Rows.modeChangesSpec.pre6 enc Try.prog Try.f5 Rows.modeChangesRow.domain false) (Rows.modeChangesSpec.post enc Try.prog Try.f5 false true false false) := by
  refine returnsInHanded_of_change_sized (C := Try.checked) own started (by kernel_rfl) Try.func5
    (ChangeSpec.witness6 (enc := enc) (C := Try.checked) false ⟨#[], #[.string ByteArray.empty, .int .i64 0, .bool false], []⟩ 8 (by kernel_rfl) (by kernel_rfl) (by kernel_rfl) (by kernel_rfl)) ?_
  intro W base args ds gs before hval0 hW hcnd hsz0 _
  have hval : ∀ (j : Nat) t v, Try.f5.params[j]? = some t → args[j]? = some v → Value.okWide Try.prog W .any base t v := hval0
  have hW' := hW
  obtain ⟨p, q, hA0, hV, rfl, hfz, hnd⟩ := hW
  have hA : DataW.TrodAll enc Try.prog W 0 (fun _ => true) true Try.f5.params.toList args.toList ds p := hA0
  have hsz : (DataW.weightsEach Try.prog (Try.f5.params.toList ++ Rows.modeChangesSpec.plain.varTypes Try.prog) (ds ++ gs)).all (· ≤ reachBytes) = true := hsz0
  rw [Try.params5] at hA hval hsz
  obtain ⟨v0, vs0, d0, ds0, p0, q0, hargs, rfl, rfl, h0, r0⟩ := trodAll_cons hA
  obtain ⟨v1, vs1, d1, ds1, p1, q1, rfl, rfl, rfl, h1, r1⟩ := trodAll_cons r0
  obtain ⟨v2, vs2, d2, ds2, p2, q2, rfl, rfl, rfl, h2, r2⟩ := trodAll_cons r1
  obtain ⟨rfl, rfl, rfl⟩ := trodAll_nil r2
  obtain rfl : args = #[v0, v1, v2] := by cases args; simp_all
  obtain ⟨rfl, rfl⟩ := trodVars_none hV
  obtain ⟨a0, rfl, rfl, rfl, w0⟩ := open_string Try.underlying9 (hval 0 9 v0 rfl rfl) h0
  obtain ⟨a1, rfl, rfl, rfl, w1⟩ := open_int Try.underlying3 (hval 1 3 v1 rfl rfl) h1
  obtain ⟨a2, rfl, rfl, rfl⟩ := open_bool Try.underlying4 (hval 2 4 v2 rfl rfl) h2
  clear hA0 hval0
  simp only [List.append_nil] at hW'
  have hreach0 : a0.size ≤ 140737488351232 := by
    have := sized_string hsz (j := 0) (t := 9) rfl rfl
    simpa [reachBytes] using this
  refine (walk a0 a1 a2 w0 w1 hreach0 W).mono fun e W' ⟨he, bel⟩ => ?_
  subst he
  exact ⟨_, rfl, _, _, _, [], [], [], hW', (trodAll_cons_mk (shut_bool Try.underlying4 _) trodAll_mk0), (trodAll_cons_mk (shut_string Try.underlying9 w0) (trodAll_cons_mk (shut_int Try.underlying3 w1) (trodAll_cons_mk (shut_bool Try.underlying4 _) trodAll_mk0))), rfl, bel.frame _, fun h => by cases h⟩

theorem over : Rows.modeChangesRow.holds Try.pinned (OpenSpec.ofChange Rows.modeChangesSpec) :=
  OpenClaim.holds_of_wide 5 Try.f5 rfl rfl rfl rfl rfl rfl rfl ⟨rfl, rfl, rfl, rfl, rfl⟩ rfl rfl rfl rfl rfl (by kernel_rfl) Try.func5 (by kernel_rfl)
    (of_decide_eq_true (by kernel_rfl)) (by unfold Func.isWrapper; first | (rw [if_pos (by decide +kernel)]; kernel_rfl) | (rw [if_neg (by decide +kernel)]; exact ⟨rfl, rfl⟩))
    (fun os started H enc _ => lifted os started H enc)

/-- The given statement. -/
theorem proved : Rows.ModeChangesSaid :=
  over
#print axioms proved
end Go.Proofs.Ytmjjhoaplcjjcaa.modeChanges
