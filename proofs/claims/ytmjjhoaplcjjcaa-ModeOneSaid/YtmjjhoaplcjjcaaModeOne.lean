/- The statement ModeOne: one class of rights counts alone: of the owner's, the group's and the others' rights just one decides: the law's call returns true, for every input. -/
import Derived.Test.YtmjjhoaplcjjcaaRows
import Derived.WalkKit
import Derived.ProofKit
import Derived.OpenShut
import Derived.ChangeOld
import Derived.Below
import Derived.Test.YtmjjhoaplcjjcaaM
import Derived.Test.YtmjjhoaplcjjcaaW11
namespace Go.Proofs.Ytmjjhoaplcjjcaa.modeOne
open Go.ChangeShapes Go.WideShapes Go.ChangeAt Go.RowKit
set_option linter.unusedVariables false      -- a walk need not use every 'w<i>' (that an integer argument fits its kind)

theorem laidOut : laidOutB Try.prog = true := by kernel_rfl
theorem own : ownKnob Try.prog.godebug = none := by kernel_rfl

theorem mask_nat (m : Int) (k : Nat) (hk : k < 9223372036854775808) : ∃ n : Nat, n ≤ k ∧ bits .and .i64 m (k : Int) = (n : Int) :=
  ⟨_, Nat.and_le_right, and_mask m k hk⟩
theorem small_right : ∀ a : Fin 64, ∀ b : Fin 8, (a.val * 8 + b.val) &&& 3071 = a.val * 8 + b.val := by decide +kernel
theorem right_small (n : Nat) (hn : n < 512) : rightB (n : Int) = true := by
  refine right_of n (by omega) ?_
  have := small_right ⟨n / 8, by omega⟩ ⟨n % 8, by omega⟩
  have e : n / 8 * 8 + n % 8 = n := by omega
  simpa only [e] using this
def cl3 (x w : Nat) : Bool := (x &&& 7) &&& w == w
theorem cl3_of (g w : Nat) (hg : g < 4096) (hw : w < 8) : (bits .andNot .i64 (w : Int) (g : Int) == 0) = cl3 g w := by
  have h7 : bits .and .i64 (g : Int) 7 = ((g &&& 7 : Nat) : Int) := and_nat g 7 (by omega) (by omega)
  have : g &&& 7 ≤ 7 := Nat.and_le_right
  rw [grant_eq g w hg hw, h7, and_nat _ _ (by omega) (by omega), cast_beq]; rfl
theorem may_owner (n w : Nat) (hn : n < 512) (h1 : 1 ≤ w) (h7 : w ≤ 7) (uid group gid : Int) (dir : Bool) (h0 : ¬ uid = 0) : mayB (n : Int) uid group dir uid gid (w : Int) = cl3 (n / 64) w := by
  unfold mayB
  rw [if_pos ⟨right_small n hn, by omega, by omega⟩, if_neg h0, if_pos rfl, show (n : Int) / 64 = ((n / 64 : Nat) : Int) by omega, cl3_of _ _ (by omega) (by omega)]
theorem may_group (n w : Nat) (hn : n < 512) (h1 : 1 ≤ w) (h7 : w ≤ 7) (uid owner gid : Int) (dir : Bool) (h0 : ¬ uid = 0) (ho : ¬ uid = owner) : mayB (n : Int) owner gid dir uid gid (w : Int) = cl3 (n / 8) w := by
  unfold mayB
  rw [if_pos ⟨right_small n hn, by omega, by omega⟩, if_neg h0, if_neg ho, if_pos rfl, show (n : Int) / 8 = ((n / 8 : Nat) : Int) by omega, cl3_of _ _ (by omega) (by omega)]
theorem may_other (n w : Nat) (hn : n < 512) (h1 : 1 ≤ w) (h7 : w ≤ 7) (uid owner group gid : Int) (dir : Bool) (h0 : ¬ uid = 0) (ho : ¬ uid = owner) (hg : ¬ gid = group) : mayB (n : Int) owner group dir uid gid (w : Int) = cl3 n w := by
  unfold mayB
  rw [if_pos ⟨right_small n hn, by omega, by omega⟩, if_neg h0, if_neg ho, if_neg hg, cl3_of _ _ (by omega) (by omega)]
theorem one_nat : ∀ a : Fin 64, ∀ b : Fin 8, ((a.val * 8 + b.val) &&& 448) / 64 = (a.val * 8 + b.val) / 64 ∧ (((a.val * 8 + b.val) &&& 56) / 8 &&& 7) = ((a.val * 8 + b.val) / 8 &&& 7) ∧ (((a.val * 8 + b.val) &&& 455) / 8 &&& 7) = 0 ∧ (((a.val * 8 + b.val) &&& 63) / 64) = 0 := by decide +kernel
theorem one_n (n : Nat) (hn : n < 512) : (n &&& 448) / 64 = n / 64 ∧ ((n &&& 56) / 8 &&& 7) = (n / 8 &&& 7) ∧ ((n &&& 455) / 8 &&& 7) = 0 ∧ (n &&& 63) / 64 = 0 := by
  have := one_nat ⟨n / 8, by omega⟩ ⟨n % 8, by omega⟩
  have e : n / 8 * 8 + n % 8 = n := by omega
  simpa only [e] using this
theorem or_div (a b k : Nat) : (a ||| b) / 2 ^ k = a / 2 ^ k ||| b / 2 ^ k := by
  rw [← Nat.shiftRight_eq_div_pow, ← Nat.shiftRight_eq_div_pow, ← Nat.shiftRight_eq_div_pow, Nat.shiftRight_or_distrib]
theorem joined (n o : Nat) (hn : n < 512) (ho : o < 512) (p q : Nat) (hp : p < 512) (hq : q < 512) :
    (n &&& p) ||| (o &&& q) < 512 ∧ bits .or .i64 (bits .and .i64 (n : Int) (p : Int)) (bits .and .i64 (o : Int) (q : Int)) = (((n &&& p) ||| (o &&& q) : Nat) : Int) := by
  have l1 : n &&& p ≤ n := Nat.and_le_left
  have l2 : o &&& q ≤ o := Nat.and_le_left
  refine ⟨Nat.or_lt_two_pow (n := 9) (by omega) (by omega), ?_⟩
  rw [and_nat _ _ (by omega) (by omega), and_nat _ _ (by omega) (by omega), or_nat _ _ (by omega) (by omega)]
theorem xor_one (g : Nat) (hg : g ≤ 65535) : ¬ (g : Int) = bits .xor .i64 (g : Int) 1 := by
  have e : bits .xor .i64 (g : Int) 1 = ((g ^^^ 1 : Nat) : Int) := by
    show IntKind.i64.wrap ((BitVec.ofInt 64 (g : Int) ^^^ BitVec.ofInt 64 1).toNat : Int) = _
    rw [BitVec.toNat_xor, toNat_ofInt, toNat_ofInt, show ((g : Int) % 18446744073709551616).toNat = g from by omega]
    have : g ^^^ 1 < 2 ^ 16 := Nat.xor_lt_two_pow (by omega) (by decide)
    show IntKind.i64.wrap ((g ^^^ 1 : Nat) : Int) = _
    rw [IntKind.wrap_i64]; omega
  rw [e]
  intro h
  have h2 : g = g ^^^ 1 := by omega
  have h3 : g ^^^ g = g ^^^ (g ^^^ 1) := congrArg (g ^^^ ·) h2
  rw [Nat.xor_self, ← Nat.xor_assoc, Nat.xor_self, Nat.zero_xor] at h3
  cases h3
theorem facts (n o u g v : Nat) (hn : n < 512) (ho : o < 512) (hg : g ≤ 65535) :
    mayB (n : Int) (1 + (u : Int)) (g : Int) false (1 + (u : Int)) (g : Int) (1 + (v : Int) % 7) = cl3 (n / 64) (1 + v % 7) ∧
    mayB (bits .or .i64 (bits .and .i64 (n : Int) 448) (bits .and .i64 (o : Int) 63)) (1 + (u : Int)) (g : Int) false (1 + (u : Int)) (g : Int) (1 + (v : Int) % 7) = cl3 (n / 64) (1 + v % 7) ∧
    mayB (n : Int) (1 + (u : Int) - 1) (g : Int) true (1 + (u : Int)) (g : Int) (1 + (v : Int) % 7) = cl3 (n / 8) (1 + v % 7) ∧
    mayB (bits .or .i64 (bits .and .i64 (n : Int) 56) (bits .and .i64 (o : Int) 455)) (1 + (u : Int) - 1) (g : Int) true (1 + (u : Int)) (g : Int) (1 + (v : Int) % 7) = cl3 (n / 8) (1 + v % 7) ∧
    mayB (n : Int) (1 + (u : Int) - 1) (bits .xor .i64 (g : Int) 1) false (1 + (u : Int)) (g : Int) (1 + (v : Int) % 7) = cl3 n (1 + v % 7) ∧
    mayB (bits .or .i64 (bits .and .i64 (n : Int) 7) (bits .and .i64 (o : Int) 504)) (1 + (u : Int) - 1) (bits .xor .i64 (g : Int) 1) false (1 + (u : Int)) (g : Int) (1 + (v : Int) % 7) = cl3 n (1 + v % 7) ∧
    (bits .and .i64 ((n : Int) / 64) (1 + (v : Int) % 7) == 1 + (v : Int) % 7) = cl3 (n / 64) (1 + v % 7) := by
  have ew : (1 + (v : Int) % 7) = ((1 + v % 7 : Nat) : Int) := by omega
  rw [ew]
  obtain ⟨j1, k1⟩ := joined n o hn ho 448 63 (by decide) (by decide)
  obtain ⟨j2, k2⟩ := joined n o hn ho 56 455 (by decide) (by decide)
  obtain ⟨j3, k3⟩ := joined n o hn ho 7 504 (by decide) (by decide)
  have g1 := (one_n n hn).1
  have g2 := (one_n n hn).2.1
  have g3 := (one_n o ho).2.2.1
  have g4 := (one_n o ho).2.2.2
  have hx := xor_one g hg
  refine ⟨may_owner n _ hn (by omega) (by omega) _ _ _ _ (by omega), ?_, may_group n _ hn (by omega) (by omega) _ _ _ _ (by omega) (by omega), ?_, may_other n _ hn (by omega) (by omega) _ _ _ _ _ (by omega) (by omega) hx, ?_, ?_⟩
  · refine (congrArg (fun x => mayB x _ _ _ _ _ _) k1).trans ?_
    rw [may_owner _ _ j1 (by omega) (by omega) _ _ _ _ (by omega)]
    have e : ((n &&& 448) ||| (o &&& 63)) / 64 = n / 64 := by
      have := or_div (n &&& 448) (o &&& 63) 6
      simp only [show (2 : Nat) ^ 6 = 64 from rfl] at this
      rw [this, g1, g4, Nat.or_zero]
    rw [e]
  · refine (congrArg (fun x => mayB x _ _ _ _ _ _) k2).trans ?_
    rw [may_group _ _ j2 (by omega) (by omega) _ _ _ _ (by omega) (by omega)]
    have e : (((n &&& 56) ||| (o &&& 455)) / 8) &&& 7 = n / 8 &&& 7 := by
      have := or_div (n &&& 56) (o &&& 455) 3
      simp only [show (2 : Nat) ^ 3 = 8 from rfl] at this
      rw [this, Nat.and_or_distrib_right, g2, g3, Nat.or_zero]
    unfold cl3
    rw [e]
  · refine (congrArg (fun x => mayB x _ _ _ _ _ _) k3).trans ?_
    rw [may_other _ _ j3 (by omega) (by omega) _ _ _ _ _ (by omega) (by omega) hx]
    unfold cl3
    have e : ((n &&& 7) ||| (o &&& 504)) &&& 7 = n &&& 7 := by
      rw [Nat.and_or_distrib_right, Nat.and_assoc, Nat.and_assoc, Nat.and_self, show (504 &&& 7 : Nat) = 0 from rfl, Nat.and_zero, Nat.or_zero]
    rw [e]
  · have l : n / 64 < 8 := by omega
    have e7 : n / 64 &&& 7 = n / 64 := by
      have := Nat.and_two_pow_sub_one_eq_mod (n / 64) 3
      rw [Nat.mod_eq_of_lt l] at this
      exact this
    rw [show (n : Int) / 64 = ((n / 64 : Nat) : Int) by omega, and_nat _ _ (by omega) (by omega), cast_beq]
    unfold cl3
    rw [e7]
set_option maxHeartbeats 1000000 in
theorem walk (a0 : Int) (a1 : Int) (a2 : Int) (a3 : Int) (a4 : Int) (w0 : (Lit.int .i64 a0).wf = true) (w1 : (Lit.int .i64 a1).wf = true) (w2 : (Lit.int .i64 a2).wf = true) (w3 : (Lit.int .i64 a3).wf = true) (w4 : (Lit.int .i64 a4).wf = true) (w : World) :
    Calls Try.prog 6 #[.int .i64 a0, .int .i64 a1, .int .i64 a2, .int .i64 a3, .int .i64 a4] w fun e w' => e = .returned (.bool true) ∧ Below w.heap.size w w' := by
  obtain ⟨n, hn, hM⟩ := mask_nat a0 511 (by decide)
  obtain ⟨o, ho, hO⟩ := mask_nat a1 511 (by decide)
  obtain ⟨u, hu, hU⟩ := mask_nat a2 65535 (by decide)
  obtain ⟨g, hg, hG⟩ := mask_nat a3 65535 (by decide)
  obtain ⟨v, hv, hV⟩ := mask_nat a4 65535 (by decide)
  obtain ⟨f1, f2, f3, f4, f5, f6, f7⟩ := facts n o u g v (by omega) (by omega) hg
  have hM' : bits .and .i64 a0 511 = (n : Int) := hM
  have hO' : bits .and .i64 a1 511 = (o : Int) := hO
  have hU' : bits .and .i64 a2 65535 = (u : Int) := hU
  have hG' : bits .and .i64 a3 65535 = (g : Int) := hG
  have hV' : bits .and .i64 a4 65535 = (v : Int) := hV
  clear hM hO hU hG hV
  obtain ⟨bA, hA⟩ : ∃ b, cl3 (n / 64) (1 + v % 7) = b := ⟨_, rfl⟩
  obtain ⟨bB, hB⟩ : ∃ b, cl3 (n / 8) (1 + v % 7) = b := ⟨_, rfl⟩
  obtain ⟨bC, hC⟩ : ∃ b, cl3 n (1 + v % 7) = b := ⟨_, rfl⟩
  have F1 := Lib.hid (f1.trans hA)
  have F2 := Lib.hid (f2.trans hA)
  have F3 := Lib.hid (f3.trans hB)
  have F4 := Lib.hid (f4.trans hB)
  have F5 := Lib.hid (f5.trans hC)
  have F6 := Lib.hid (f6.trans hC)
  have f8 := f7.trans hA
  clear f1 f2 f3 f4 f5 f6 f7 hA hB hC
  cases bA
  · go_enter Try.func6, Try.ntmps6
    go_wp2_with (first | (go_at_call 11; refine (shown_any _).mono ?_; rintro e w' ⟨rfl, hbel⟩) | (go_at_call 14; (with_reducible refine (may_any _ _ _ _ _ _ _ _).mono ?_); rintro e w' ⟨rfl, rfl⟩; first | rw [F1.out] | rw [F2.out] | rw [F3.out] | rw [F4.out] | rw [F5.out] | rw [F6.out]))
    go_ret
    exact ⟨rfl, hbel⟩
  · go_enter Try.func6, Try.ntmps6
    go_wp2_with (first | (go_at_call 11; refine (shown_any _).mono ?_; rintro e w' ⟨rfl, hbel⟩) | (go_at_call 14; (with_reducible refine (may_any _ _ _ _ _ _ _ _).mono ?_); rintro e w' ⟨rfl, rfl⟩; first | rw [F1.out] | rw [F2.out] | rw [F3.out] | rw [F4.out] | rw [F5.out] | rw [F6.out]))
    go_ret
    exact ⟨rfl, hbel⟩

set_option maxRecDepth 100000 in
theorem lifted (os : Os) (started : os.Started) (H : Type) (enc : TypeId × Value → H) :
    ReturnsInHanded {} Try.checked os 6 .any (Rows.modeOneSpec.pre6 enc Try.prog Try.f6 Rows.modeOneRow.domain false) (Rows.modeOneSpec.post enc Try.prog Try.f6 false true false false) := by
  refine returnsInHanded_of_change (C := Try.checked) own started (by kernel_rfl) Try.func6
    (ChangeSpec.witness6 (enc := enc) (C := Try.checked) false ⟨#[], #[.int .i64 0, .int .i64 0, .int .i64 0, .int .i64 0, .int .i64 0], []⟩ 8 (by kernel_rfl) (by kernel_rfl) (by kernel_rfl) (by kernel_rfl)) ?_
  intro W base args ds gs before hval0 hW hcnd _
  have hval : ∀ (j : Nat) t v, Try.f6.params[j]? = some t → args[j]? = some v → Value.okWide Try.prog W .any base t v := hval0
  have hW' := hW
  obtain ⟨p, q, hA0, hV, rfl, hfz, hnd⟩ := hW
  have hA : DataW.TrodAll enc Try.prog W 0 (fun _ => true) true Try.f6.params.toList args.toList ds p := hA0
  rw [Try.params6] at hA hval
  obtain ⟨v0, vs0, d0, ds0, p0, q0, hargs, rfl, rfl, h0, r0⟩ := trodAll_cons hA
  obtain ⟨v1, vs1, d1, ds1, p1, q1, rfl, rfl, rfl, h1, r1⟩ := trodAll_cons r0
  obtain ⟨v2, vs2, d2, ds2, p2, q2, rfl, rfl, rfl, h2, r2⟩ := trodAll_cons r1
  obtain ⟨v3, vs3, d3, ds3, p3, q3, rfl, rfl, rfl, h3, r3⟩ := trodAll_cons r2
  obtain ⟨v4, vs4, d4, ds4, p4, q4, rfl, rfl, rfl, h4, r4⟩ := trodAll_cons r3
  obtain ⟨rfl, rfl, rfl⟩ := trodAll_nil r4
  obtain rfl : args = #[v0, v1, v2, v3, v4] := by cases args; simp_all
  obtain ⟨rfl, rfl⟩ := trodVars_none hV
  obtain ⟨a0, rfl, rfl, rfl, w0⟩ := open_int Try.underlying3 (hval 0 3 v0 rfl rfl) h0
  obtain ⟨a1, rfl, rfl, rfl, w1⟩ := open_int Try.underlying3 (hval 1 3 v1 rfl rfl) h1
  obtain ⟨a2, rfl, rfl, rfl, w2⟩ := open_int Try.underlying3 (hval 2 3 v2 rfl rfl) h2
  obtain ⟨a3, rfl, rfl, rfl, w3⟩ := open_int Try.underlying3 (hval 3 3 v3 rfl rfl) h3
  obtain ⟨a4, rfl, rfl, rfl, w4⟩ := open_int Try.underlying3 (hval 4 3 v4 rfl rfl) h4
  clear hA0 hval0
  simp only [List.append_nil] at hW'
  refine (walk a0 a1 a2 a3 a4 w0 w1 w2 w3 w4 W).mono fun e W' ⟨he, bel⟩ => ?_
  subst he
  exact ⟨_, rfl, _, _, _, [], [], [], hW', (trodAll_cons_mk (shut_bool Try.underlying4 _) trodAll_mk0), (trodAll_cons_mk (shut_int Try.underlying3 w0) (trodAll_cons_mk (shut_int Try.underlying3 w1) (trodAll_cons_mk (shut_int Try.underlying3 w2) (trodAll_cons_mk (shut_int Try.underlying3 w3) (trodAll_cons_mk (shut_int Try.underlying3 w4) trodAll_mk0))))), rfl, bel.frame _, fun h => by cases h⟩

theorem over : Rows.modeOneRow.holds Try.pinned (OpenSpec.ofChange Rows.modeOneSpec) :=
  OpenClaim.holds_of_wide 6 Try.f6 rfl rfl rfl rfl rfl rfl rfl ⟨rfl, rfl, rfl, rfl, rfl⟩ rfl rfl rfl rfl rfl (by kernel_rfl) Try.func6 (by kernel_rfl)
    (of_decide_eq_true (by kernel_rfl)) (by unfold Func.isWrapper; first | (rw [if_pos (by decide +kernel)]; kernel_rfl) | (rw [if_neg (by decide +kernel)]; exact ⟨rfl, rfl⟩))
    (fun os started H enc _ => lifted os started H enc)

/-- The given statement. -/
theorem proved : Rows.ModeOneSaid :=
  over
#print axioms proved
end Go.Proofs.Ytmjjhoaplcjjcaa.modeOne
