/- The statement ModeTells: a text tells its mode: two modes and kinds have the same text just if both are the same, and it has ten bytes: the law's call returns true, for every input. -/
import Derived.Test.YtmjjhoaplcjjcaaRows
import Derived.WalkKit
import Derived.ProofKit
import Derived.OpenShut
import Derived.ChangeOld
import Derived.Below
import Derived.Test.YtmjjhoaplcjjcaaM3
namespace Go.Proofs.Ytmjjhoaplcjjcaa.modeTells
open Go.ChangeShapes Go.WideShapes Go.ChangeAt Go.RowKit
set_option linter.unusedVariables false      -- a walk need not use every 'w<i>' (that an integer argument fits its kind)

theorem laidOut : laidOutB Try.prog = true := by kernel_rfl
theorem own : ownKnob Try.prog.godebug = none := by kernel_rfl

set_option maxHeartbeats 4000000 in
theorem walk (a0 : Int) (a1 : Int) (a2 : Int) (a3 : Int) (w0 : (Lit.int .i64 a0).wf = true) (w1 : (Lit.int .i64 a1).wf = true) (w2 : (Lit.int .i64 a2).wf = true) (w3 : (Lit.int .i64 a3).wf = true) (w : World) :
    Calls Try.prog 7 #[.int .i64 a0, .int .i64 a1, .int .i64 a2, .int .i64 a3] w fun e w' => e = .returned (.bool true) ∧ Below w.heap.size w w' := by
  have v2 := wf_range w2
  have v3 := wf_range w3
  unfold wfI at v2 v3
  obtain ⟨n, hn, hn2, hM⟩ := mask_right a0
  obtain ⟨p, hp, hp2, hP⟩ := mask_right a1
  by_cases h2 : 0 ≤ a2
  · by_cases h3 : 0 ≤ a3
    · skip
      obtain ⟨t1, t2, h1, h2, hs, he⟩ := tells_facts (a2 % 3) (a3 % 3) n p (by omega) (by omega) hn hp hn2 hp2
      have H1 := Lib.hid h1
      have H2 := Lib.hid h2
      clear h1 h2 hn2 hp2
      cases c1 : ((n : Int) == (p : Int)) <;> cases c2 : ((a2 % 3) == (a3 % 3)) <;> rw [c1, c2] at he
      all_goals
        simp only [Bool.and_true, Bool.and_false] at he
        go_enter Try.func7, Try.ntmps7
        go_wp2_with (first | (go_at_call 11; refine (shown_any _).mono ?_; rintro e w' ⟨rfl, hb0⟩) | (go_at_call 18; refine (text_any _ _ _).mono ?_; rintro e w' ⟨rfl, hb1⟩; rw [H1.out]; have HB1 := Lib.hid hb1; clear hb1 H1) | (go_at_call 18; refine (text_any _ _ _).mono ?_; rintro e w' ⟨rfl, hb2⟩; rw [H2.out]))
        go_ret
        exact ⟨rfl, (hb0.trans (HB1.out.mono hb0.size)).trans (hb2.mono (Nat.le_trans hb0.size HB1.out.size))⟩
    · skip
      obtain ⟨t1, t2, h1, h2, hs, he⟩ := tells_facts (a2 % 3) (-((a3 + 1).tmod 3)) n p (by omega) (neg_mod _ (by omega)) hn hp hn2 hp2
      have H1 := Lib.hid h1
      have H2 := Lib.hid h2
      clear h1 h2 hn2 hp2
      cases c1 : ((n : Int) == (p : Int)) <;> cases c2 : ((a2 % 3) == (-((a3 + 1).tmod 3))) <;> rw [c1, c2] at he
      all_goals
        simp only [Bool.and_true, Bool.and_false] at he
        go_enter Try.func7, Try.ntmps7
        go_wp2_with (first | (go_at_call 11; refine (shown_any _).mono ?_; rintro e w' ⟨rfl, hb0⟩) | (go_at_call 18; refine (text_any _ _ _).mono ?_; rintro e w' ⟨rfl, hb1⟩; rw [H1.out]; have HB1 := Lib.hid hb1; clear hb1 H1) | (go_at_call 18; refine (text_any _ _ _).mono ?_; rintro e w' ⟨rfl, hb2⟩; rw [H2.out]))
        go_ret
        exact ⟨rfl, (hb0.trans (HB1.out.mono hb0.size)).trans (hb2.mono (Nat.le_trans hb0.size HB1.out.size))⟩
  · by_cases h3 : 0 ≤ a3
    · skip
      obtain ⟨t1, t2, h1, h2, hs, he⟩ := tells_facts (-((a2 + 1).tmod 3)) (a3 % 3) n p (neg_mod _ (by omega)) (by omega) hn hp hn2 hp2
      have H1 := Lib.hid h1
      have H2 := Lib.hid h2
      clear h1 h2 hn2 hp2
      cases c1 : ((n : Int) == (p : Int)) <;> cases c2 : ((-((a2 + 1).tmod 3)) == (a3 % 3)) <;> rw [c1, c2] at he
      all_goals
        simp only [Bool.and_true, Bool.and_false] at he
        go_enter Try.func7, Try.ntmps7
        go_wp2_with (first | (go_at_call 11; refine (shown_any _).mono ?_; rintro e w' ⟨rfl, hb0⟩) | (go_at_call 18; refine (text_any _ _ _).mono ?_; rintro e w' ⟨rfl, hb1⟩; rw [H1.out]; have HB1 := Lib.hid hb1; clear hb1 H1) | (go_at_call 18; refine (text_any _ _ _).mono ?_; rintro e w' ⟨rfl, hb2⟩; rw [H2.out]))
        go_ret
        exact ⟨rfl, (hb0.trans (HB1.out.mono hb0.size)).trans (hb2.mono (Nat.le_trans hb0.size HB1.out.size))⟩
    · skip
      obtain ⟨t1, t2, h1, h2, hs, he⟩ := tells_facts (-((a2 + 1).tmod 3)) (-((a3 + 1).tmod 3)) n p (neg_mod _ (by omega)) (neg_mod _ (by omega)) hn hp hn2 hp2
      have H1 := Lib.hid h1
      have H2 := Lib.hid h2
      clear h1 h2 hn2 hp2
      cases c1 : ((n : Int) == (p : Int)) <;> cases c2 : ((-((a2 + 1).tmod 3)) == (-((a3 + 1).tmod 3))) <;> rw [c1, c2] at he
      all_goals
        simp only [Bool.and_true, Bool.and_false] at he
        go_enter Try.func7, Try.ntmps7
        go_wp2_with (first | (go_at_call 11; refine (shown_any _).mono ?_; rintro e w' ⟨rfl, hb0⟩) | (go_at_call 18; refine (text_any _ _ _).mono ?_; rintro e w' ⟨rfl, hb1⟩; rw [H1.out]; have HB1 := Lib.hid hb1; clear hb1 H1) | (go_at_call 18; refine (text_any _ _ _).mono ?_; rintro e w' ⟨rfl, hb2⟩; rw [H2.out]))
        go_ret
        exact ⟨rfl, (hb0.trans (HB1.out.mono hb0.size)).trans (hb2.mono (Nat.le_trans hb0.size HB1.out.size))⟩

set_option maxRecDepth 100000 in
theorem lifted (os : Os) (started : os.Started) (H : Type) (enc : TypeId × Value → H) :
    ReturnsInHanded {} Try.checked os 7 .any (Rows.modeTellsSpec.pre6 enc Try.prog Try.f7 Rows.modeTellsRow.domain false) (Rows.modeTellsSpec.post enc Try.prog Try.f7 false true false false) := by
  refine returnsInHanded_of_change (C := Try.checked) own started (by kernel_rfl) Try.func7
    (ChangeSpec.witness6 (enc := enc) (C := Try.checked) false ⟨#[], #[.int .i64 0, .int .i64 0, .int .i64 0, .int .i64 0], []⟩ 8 (by kernel_rfl) (by kernel_rfl) (by kernel_rfl) (by kernel_rfl)) ?_
  intro W base args ds gs before hval0 hW hcnd _
  have hval : ∀ (j : Nat) t v, Try.f7.params[j]? = some t → args[j]? = some v → Value.okWide Try.prog W .any base t v := hval0
  have hW' := hW
  obtain ⟨p, q, hA0, hV, rfl, hfz, hnd⟩ := hW
  have hA : DataW.TrodAll enc Try.prog W 0 (fun _ => true) true Try.f7.params.toList args.toList ds p := hA0
  rw [Try.params7] at hA hval
  obtain ⟨v0, vs0, d0, ds0, p0, q0, hargs, rfl, rfl, h0, r0⟩ := trodAll_cons hA
  obtain ⟨v1, vs1, d1, ds1, p1, q1, rfl, rfl, rfl, h1, r1⟩ := trodAll_cons r0
  obtain ⟨v2, vs2, d2, ds2, p2, q2, rfl, rfl, rfl, h2, r2⟩ := trodAll_cons r1
  obtain ⟨v3, vs3, d3, ds3, p3, q3, rfl, rfl, rfl, h3, r3⟩ := trodAll_cons r2
  obtain ⟨rfl, rfl, rfl⟩ := trodAll_nil r3
  obtain rfl : args = #[v0, v1, v2, v3] := by cases args; simp_all
  obtain ⟨rfl, rfl⟩ := trodVars_none hV
  obtain ⟨a0, rfl, rfl, rfl, w0⟩ := open_int Try.underlying3 (hval 0 3 v0 rfl rfl) h0
  obtain ⟨a1, rfl, rfl, rfl, w1⟩ := open_int Try.underlying3 (hval 1 3 v1 rfl rfl) h1
  obtain ⟨a2, rfl, rfl, rfl, w2⟩ := open_int Try.underlying3 (hval 2 3 v2 rfl rfl) h2
  obtain ⟨a3, rfl, rfl, rfl, w3⟩ := open_int Try.underlying3 (hval 3 3 v3 rfl rfl) h3
  clear hA0 hval0
  simp only [List.append_nil] at hW'
  refine (walk a0 a1 a2 a3 w0 w1 w2 w3 W).mono fun e W' ⟨he, bel⟩ => ?_
  subst he
  exact ⟨_, rfl, _, _, _, [], [], [], hW', (trodAll_cons_mk (shut_bool Try.underlying4 _) trodAll_mk0), (trodAll_cons_mk (shut_int Try.underlying3 w0) (trodAll_cons_mk (shut_int Try.underlying3 w1) (trodAll_cons_mk (shut_int Try.underlying3 w2) (trodAll_cons_mk (shut_int Try.underlying3 w3) trodAll_mk0)))), rfl, bel.frame _, fun h => by cases h⟩

theorem over : Rows.modeTellsRow.holds Try.pinned (OpenSpec.ofChange Rows.modeTellsSpec) :=
  OpenClaim.holds_of_wide 7 Try.f7 rfl rfl rfl rfl rfl rfl rfl ⟨rfl, rfl, rfl, rfl, rfl⟩ rfl rfl rfl rfl rfl (by kernel_rfl) Try.func7 (by kernel_rfl)
    (of_decide_eq_true (by kernel_rfl)) (by unfold Func.isWrapper; first | (rw [if_pos (by decide +kernel)]; kernel_rfl) | (rw [if_neg (by decide +kernel)]; exact ⟨rfl, rfl⟩))
    (fun os started H enc _ => lifted os started H enc)

/-- The given statement. -/
theorem proved : Rows.ModeTellsSaid :=
  over
#print axioms proved
end Go.Proofs.Ytmjjhoaplcjjcaa.modeTells
