/- How many kids a kind has. -/
import Derived.Test.YtoahgblgchmclaaQE
namespace Go.Proofs.Ytoahgblgchmclaa
open Go.RowKit
set_option linter.unusedVariables false
set_option linter.unusedSimpArgs false
def kidsPost (m : Nd) (W : World) (e : Ending) (w' : World) : Prop :=
  e = .returned (.tuple #[.int .i64 (kidN m).1, .int .i64 (kidN m).2]) ∧ Fr (fun _ => False) W w'
set_option maxHeartbeats 8000000 in
theorem kids_any {W : World} {K : Nat → Prop} (m : Nd) {sv wv rv pv kv : Value} (h1 : Strs W K sv m.sets) (h2 : Strs W K wv m.words) (h3 : Rds W K rv m.redirs) (h4 : Pats W K pv m.pats) (h5 : Ints W K kv m.kids) :
    Calls Try.prog 10 #[.agg #[.int .i64 m.kind, .string (st m.name), .bool m.inn, sv, wv, rv, pv, kv]] W (kidsPost m W) := by
  obtain ⟨i0, z0, hi, hz0, hz1, hz2, hz3⟩ := info_node
  have o3 : sv.oneCell' = true := one_slice h1.1
  have o4 : wv.oneCell' = true := one_slice h2.1
  have o5 : rv.oneCell' = true := one_slice h3.1
  have o7 : kv.oneCell' = true := one_slice h5.1
  obtain ⟨vs, hp, _⟩ := h4
  obtain ⟨ao, cap, rfl, hcp, hcm, _⟩ := ownz_form hp
  have hwf : (m.pats.length : Int) ≤ 9223372036854775807 := by unfold maxLen at hcm; omega
  clear h1 h2 h3 h5 hp
  have HK := Lib.hid (show ∀ x y : Nat, (kidN m).1 = x → (kidN m).2 = y → ∀ w', Fr (fun _ => False) W w' → kidsPost m W (.returned (.tuple #[.int .i64 x, .int .i64 y])) w' from by
    rintro x y rfl rfl w' f
    exact ⟨rfl, f⟩)
  obtain ⟨kind, name, inn, sets, words, redirs, pats, kids⟩ := m
  dsimp only at *
  have hk : kind = 1 ∨ kind = 2 ∨ kind = 7 ∨ kind = 8 ∨ kind = 9 ∨ kind = 13 ∨ kind = 15 ∨ kind = 4 ∨ kind = 5 ∨ kind = 11 ∨ kind = 12 ∨ kind = 3 ∨ kind = 6 ∨ kind = 10 ∨ kind = 14 ∨
    ((kind == 1) = false ∧ (kind == 2) = false ∧ (kind == 7) = false ∧ (kind == 8) = false ∧ (kind == 9) = false ∧ (kind == 13) = false ∧ (kind == 15) = false ∧ (kind == 4) = false ∧ (kind == 5) = false ∧ (kind == 11) = false ∧ (kind == 12) = false ∧ (kind == 3) = false ∧ (kind == 6) = false ∧ (kind == 10) = false ∧ (kind == 14) = false) := by
    simp only [beq_eq_false_iff_ne, ne_eq]
    omega
  rcases hk with rfl | rfl | rfl | rfl | rfl | rfl | rfl | rfl | rfl | rfl | rfl | rfl | rfl | rfl | rfl | ⟨k1, k2, k7, k8, k9, k13, k15, k4, k5, k11, k12, k3, k6, k10, k14⟩
  all_goals (
    go_enter Try.func10, Try.ntmps10
    go_wp2)
  iterate 14 (
    go_ret2
    exact HK.out _ _ rfl rfl _ ((Fr.refl _ _).alloc _))
  · go_quiet (fail)
    go_wp2
    go_ret2
    exact HK.out _ _ rfl rfl _ (((Fr.refl _ _).alloc _).drewN _)
  · go_ret2
    refine HK.out _ _ ?_ ?_ _ ((Fr.refl _ _).alloc _)
    all_goals
      simp only [beq_eq_false_iff_ne, ne_eq] at k1 k2 k7 k8 k9 k13 k15 k4 k5 k11 k12 k3 k6 k10 k14
      unfold kidN
      simp [k1, k2, k7, k8, k9, k13, k15, k4, k5, k11, k12, k3, k6, k10, k14]
end Go.Proofs.Ytoahgblgchmclaa
