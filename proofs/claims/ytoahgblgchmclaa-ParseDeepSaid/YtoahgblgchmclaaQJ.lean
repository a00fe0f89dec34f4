/- Brackets within one another: the texts, what parseA answers. -/
import Derived.Test.YtoahgblgchmclaaPA
namespace Go.Proofs.Ytoahgblgchmclaa
set_option linter.unusedVariables false
set_option linter.unusedSimpArgs false
def deepT (b : Bool) : Nat → Bs
  | 0 => [97]
  | k + 1 => if b then [40, 32] ++ deepT b k ++ [32, 41] else [123, 32] ++ deepT b k ++ [59, 32, 125]
def okD (b : Bool) (k : Nat) : Bool :=
  match parseA (deepT b k) with
  | (ns, p, e) => if k ≤ 25 then decide (ns.length = k + 1) && (decide (p = 0) && decide (e = 0)) else decide (ns.length = 0) && (decide (p = 50) && decide (e = 17))
theorem deep_0 : ((List.range 4).all fun k => okD true (k + 0) && okD false (k + 0)) = true := by kernel_rfl
theorem deep_1 : ((List.range 4).all fun k => okD true (k + 4) && okD false (k + 4)) = true := by kernel_rfl
theorem deep_2 : ((List.range 4).all fun k => okD true (k + 8) && okD false (k + 8)) = true := by kernel_rfl
theorem deep_3 : ((List.range 4).all fun k => okD true (k + 12) && okD false (k + 12)) = true := by kernel_rfl
theorem deep_4 : ((List.range 4).all fun k => okD true (k + 16) && okD false (k + 16)) = true := by kernel_rfl
theorem deep_5 : ((List.range 4).all fun k => okD true (k + 20) && okD false (k + 20)) = true := by kernel_rfl
theorem deep_6 : ((List.range 4).all fun k => okD true (k + 24) && okD false (k + 24)) = true := by kernel_rfl
theorem deep_7 : ((List.range 4).all fun k => okD true (k + 28) && okD false (k + 28)) = true := by kernel_rfl
theorem deep_8 : ((List.range 4).all fun k => okD true (k + 32) && okD false (k + 32)) = true := by kernel_rfl
theorem deep_9 : ((List.range 4).all fun k => okD true (k + 36) && okD false (k + 36)) = true := by kernel_rfl
theorem deep_10 : ((List.range 4).all fun k => okD true (k + 40) && okD false (k + 40)) = true := by kernel_rfl
theorem deep_11 : ((List.range 4).all fun k => okD true (k + 44) && okD false (k + 44)) = true := by kernel_rfl
theorem deep_12 : ((List.range 4).all fun k => okD true (k + 48) && okD false (k + 48)) = true := by kernel_rfl
theorem deep_13 : ((List.range 4).all fun k => okD true (k + 52) && okD false (k + 52)) = true := by kernel_rfl
theorem deep_14 : ((List.range 4).all fun k => okD true (k + 56) && okD false (k + 56)) = true := by kernel_rfl
theorem deep_15 : ((List.range 4).all fun k => okD true (k + 60) && okD false (k + 60)) = true := by kernel_rfl
theorem deep_ok (b : Bool) (k : Nat) (hk : k < 64) : okD b k = true := by
  have key : ∀ o, ((List.range 4).all fun k => okD true (k + o) && okD false (k + o)) = true → o ≤ k → k < o + 4 → okD b k = true := by
    intro o h h1 h2
    have := List.all_eq_true.1 h (k - o) (List.mem_range.2 (by omega))
    rw [Bool.and_eq_true, Nat.sub_add_cancel h1] at this
    cases b
    · exact this.2
    · exact this.1
  by_cases h0 : k < 4
  · exact key 0 deep_0 (by omega) (by omega)
  by_cases h1 : k < 8
  · exact key 4 deep_1 (by omega) (by omega)
  by_cases h2 : k < 12
  · exact key 8 deep_2 (by omega) (by omega)
  by_cases h3 : k < 16
  · exact key 12 deep_3 (by omega) (by omega)
  by_cases h4 : k < 20
  · exact key 16 deep_4 (by omega) (by omega)
  by_cases h5 : k < 24
  · exact key 20 deep_5 (by omega) (by omega)
  by_cases h6 : k < 28
  · exact key 24 deep_6 (by omega) (by omega)
  by_cases h7 : k < 32
  · exact key 28 deep_7 (by omega) (by omega)
  by_cases h8 : k < 36
  · exact key 32 deep_8 (by omega) (by omega)
  by_cases h9 : k < 40
  · exact key 36 deep_9 (by omega) (by omega)
  by_cases h10 : k < 44
  · exact key 40 deep_10 (by omega) (by omega)
  by_cases h11 : k < 48
  · exact key 44 deep_11 (by omega) (by omega)
  by_cases h12 : k < 52
  · exact key 48 deep_12 (by omega) (by omega)
  by_cases h13 : k < 56
  · exact key 52 deep_13 (by omega) (by omega)
  by_cases h14 : k < 60
  · exact key 56 deep_14 (by omega) (by omega)
  by_cases h15 : k < 64
  · exact key 60 deep_15 (by omega) (by omega)
  omega
end Go.Proofs.Ytoahgblgchmclaa
