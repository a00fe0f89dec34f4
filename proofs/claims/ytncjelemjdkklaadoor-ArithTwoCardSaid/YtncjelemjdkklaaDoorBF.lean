/- The walk of ArithTwo. -/
import Derived.Test.YtncjelemjdkklaaDoorBE
namespace Go.Proofs.YtncjelemjdkklaaDoor
open Go.RowKit
set_option linter.unusedVariables false
set_option linter.unusedSimpArgs false
theorem evl_err (g : List (Bs × Bs)) (s : Bs) (l r : Nd) (o o1 : Own) (a e : Int) (h1 : ev g l o = ((a, e), o1)) (he : e ≠ 0) : ev g (.bin s l r) o = ((0, e), o1) := by
  rw [ev, h1]
  dsimp only
  rw [if_neg he]
theorem wrap_ex (x : Int) : ∃ q : Int, wrap64 x = x + 18446744073709551616 * q := ⟨-((x + 9223372036854775808) / 18446744073709551616), by unfold wrap64; omega⟩
theorem wrap_mul (x b : Int) : wrap64 (wrap64 x * b) = wrap64 (x * b) := by
  obtain ⟨q, hq⟩ := wrap_ex x
  rw [hq, Int.add_mul, Int.mul_assoc]
  generalize q * b = z
  generalize x * b = y
  unfold wrap64; omega
theorem wrap_add (x t : Int) : wrap64 (wrap64 x + t) = wrap64 (x + t) := by unfold wrap64; omega
theorem div_back (a b : Int) (ha : I64 a) : wrap64 (wrap64 (wrap64 (a.tdiv b) * b) + a.tmod b) = a := by
  rw [wrap_mul, wrap_add, show a.tdiv b * b + a.tmod b = a from by rw [Int.mul_comm]; exact Int.mul_tdiv_add_tmod a b, wrap_id ha]
theorem evA (a b : Int) (ha : I64 a) (hb : I64 b) : ev (mk a b [98]) A' [] = ((a, 0), []) := (evl_nam _ _ _).trans (by rw [getA a b _ ha])
theorem evB (a b : Int) (ha : I64 a) (hb : I64 b) : ev (mk a b [98]) B' [] = ((b, 0), []) := (evl_nam _ _ _).trans (by rw [getK a b [98] (by decide) hb])
section
variable (a b : Int) (ha : I64 a) (hb : I64 b)
include ha hb
theorem two1 : valP (mk a b [98]) [97, 32, 43, 32, 98, 32, 45, 32, 40, 97, 32, 45, 32, 98, 41, 32, 42, 32, 40, 97, 32, 42, 32, 98, 41] = (wrap64 (wrap64 (a + b) - wrap64 (wrap64 (a - b) * wrap64 (a * b))), 0, []) := by
  have A := evA a b ha hb
  have B := evB a b ha hb
  have e1 := evl_bin _ [43] _ _ _ _ _ _ _ A B (by decide)
  have e2 := evl_bin _ [45] _ _ _ _ _ _ _ A B (by decide)
  have e3 := evl_bin _ [42] _ _ _ _ _ _ _ A B (by decide)
  have e4 := evl_bin _ [42] _ _ _ _ _ _ _ e2 e3 (by decide)
  have e5 := evl_bin _ [45] _ _ _ _ _ _ _ e1 e4 (by decide)
  rw [valP_of _ _ _ (show parsed _ = some (.bin [45] (.bin [43] A' B') (.bin [42] (.bin [45] A' B') (.bin [42] A' B'))) by decide +kernel) _ 0 [] e5]
  rfl
def cmpV (a b : Int) : Int := wrap64 (wrap64 (wrap64 (wrap64 (wrap64 (truth (decide (a < b)) + wrap64 (truth (decide (a ≤ b)) * 2)) + wrap64 (truth (a == b) * 4)) + wrap64 (truth (a != b) * 8)) + wrap64 (truth (decide (b < a)) * 16)) + wrap64 (truth (decide (b ≤ a)) * 32))
theorem two2 : valP (mk a b [98]) ([40, 97, 32, 60, 32, 98, 41, 32, 43, 32, 40, 97, 32, 60, 61, 32, 98, 41, 32, 42, 32, 50, 32, 43, 32, 40, 97, 32, 61, 61, 32, 98, 41, 32, 42, 32, 52, 32, 43, 32, 40].append [97, 32, 33, 61, 32, 98, 41, 32, 42, 32, 56, 32, 43, 32, 40, 97, 32, 62, 32, 98, 41, 32, 42, 32, 49, 54, 32, 43, 32, 40, 97, 32, 62, 61, 32, 98, 41, 32, 42, 32, 51, 50]) = (cmpV a b, 0, []) := by
  have A := evA a b ha hb
  have B := evB a b ha hb
  have N (n : Int) := evl_num (mk a b [98]) n []
  have e1 := evl_bin _ [60] _ _ _ _ _ _ _ A B (by decide)
  have e2 := evl_bin _ [42] _ _ _ _ _ _ _ (evl_bin _ [60, 61] _ _ _ _ _ _ _ A B (by decide)) (N 2) (by decide)
  have e3 := evl_bin _ [42] _ _ _ _ _ _ _ (evl_bin _ [61, 61] _ _ _ _ _ _ _ A B (by decide)) (N 4) (by decide)
  have e4 := evl_bin _ [42] _ _ _ _ _ _ _ (evl_bin _ [33, 61] _ _ _ _ _ _ _ A B (by decide)) (N 8) (by decide)
  have e5 := evl_bin _ [42] _ _ _ _ _ _ _ (evl_bin _ [62] _ _ _ _ _ _ _ A B (by decide)) (N 16) (by decide)
  have e6 := evl_bin _ [42] _ _ _ _ _ _ _ (evl_bin _ [62, 61] _ _ _ _ _ _ _ A B (by decide)) (N 32) (by decide)
  have s2 := evl_bin _ [43] _ _ _ _ _ _ _ e1 e2 (by decide)
  have s3 := evl_bin _ [43] _ _ _ _ _ _ _ s2 e3 (by decide)
  have s4 := evl_bin _ [43] _ _ _ _ _ _ _ s3 e4 (by decide)
  have s5 := evl_bin _ [43] _ _ _ _ _ _ _ s4 e5 (by decide)
  have s6 := evl_bin _ [43] _ _ _ _ _ _ _ s5 e6 (by decide)
  rw [valP_of _ _ _ (show parsed _ = some (.bin [43] (.bin [43] (.bin [43] (.bin [43] (.bin [43] (.bin [60] A' B') (.bin [42] (.bin [60, 61] A' B') (.num 2))) (.bin [42] (.bin [61, 61] A' B') (.num 4))) (.bin [42] (.bin [33, 61] A' B') (.num 8))) (.bin [42] (.bin [62] A' B') (.num 16))) (.bin [42] (.bin [62, 61] A' B') (.num 32))) by decide +kernel) _ 0 [] s6]
  rfl
omit ha hb in
theorem cmp_lt (h : a < b) : cmpV a b = 11 := by
  unfold cmpV
  rw [show decide (a < b) = true by simp; omega, show decide (a ≤ b) = true by simp; omega, show (a == b) = false by simp; omega, show (a != b) = true by simp; omega, show decide (b < a) = false by simp; omega, show decide (b ≤ a) = false by simp; omega]
  decide +kernel
omit ha hb in
theorem cmp_eq (h : a = b) : cmpV a b = 38 := by
  unfold cmpV
  rw [show decide (a < b) = false by simp; omega, show decide (a ≤ b) = true by simp; omega, show (a == b) = true by simp; omega, show (a != b) = false by simp; omega, show decide (b < a) = false by simp; omega, show decide (b ≤ a) = true by simp; omega]
  decide +kernel
omit ha hb in
theorem cmp_gt (h : b < a) : cmpV a b = 56 := by
  unfold cmpV
  rw [show decide (a < b) = false by simp; omega, show decide (a ≤ b) = false by simp; omega, show (a == b) = false by simp; omega, show (a != b) = true by simp; omega, show decide (b < a) = true by simp; omega, show decide (b ≤ a) = true by simp; omega]
  decide +kernel
theorem two3 : valP (mk a b [98]) [40, 97, 32, 38, 32, 98, 41, 32, 94, 32, 40, 97, 32, 124, 32, 98, 41, 32, 94, 32, 97, 32, 94, 32, 98, 32, 94, 32, 126, 97] = (bits .xor .i64 (-1) a, 0, []) := by
  have A := evA a b ha hb
  have B := evB a b ha hb
  have e1 := evl_bin _ [38] _ _ _ _ _ _ _ A B (by decide)
  have e2 := evl_bin _ [124] _ _ _ _ _ _ _ A B (by decide)
  have e3 := evl_bin _ [94] _ _ _ _ _ _ _ e1 e2 (by decide)
  have e4 := evl_bin _ [94] _ _ _ _ _ _ _ e3 A (by decide)
  have e5 := evl_bin _ [94] _ _ _ _ _ _ _ e4 B (by decide)
  have e6 := evl_bin _ [94] _ _ _ _ _ _ _ e5 (evl_pre _ [126] _ _ _ _ A) (by decide)
  have e7 : ev (mk a b [98]) (.bin [94] (.bin [94] (.bin [94] (.bin [94] (.bin [38] A' B') (.bin [124] A' B')) A') B') (.pre [126] A')) [] = ((bits .xor .i64 (-1) a, 0), []) := e6.trans (by
    show ((bits .xor .i64 (bits .xor .i64 (bits .xor .i64 (bits .xor .i64 (bits .and .i64 a b) (bits .or .i64 a b)) a) b) (bits .xor .i64 (-1) a), (0 : Int)), ([] : Own)) = _
    rw [bits_two])
  rw [valP_of _ _ _ (show parsed _ = some _ by decide +kernel) _ 0 [] e7]
  rfl
omit ha hb in
theorem two4 : valP (mk a b [98]) [113, 32, 61, 32, 97, 32, 47, 32, 98, 44, 32, 48] = (0, 17, []) := by
  unfold valP
  rw [show parsed [113, 32, 61, 32, 97, 32, 47, 32, 98, 44, 32, 48] = none by decide +kernel]
abbrev T5 : Nd := .bin [43] (.bin [42] (.bin [47] A' B') B') (.bin [37] A' B')
theorem two5 (h0 : b ≠ 0) : valP (mk a b [98]) [40, 97, 32, 47, 32, 98, 41, 32, 42, 32, 98, 32, 43, 32, 97, 32, 37, 32, 98] = (a, 0, []) := by
  have A := evA a b ha hb
  have B := evB a b ha hb
  have e1 : ev (mk a b [98]) (.bin [47] A' B') [] = ((wrap64 (a.tdiv b), 0), []) := (evl_bin _ [47] _ _ _ _ _ _ _ A B (by decide)).trans (by unfold opI; rw [if_pos (.inl rfl), if_neg h0, if_pos rfl])
  have e2 : ev (mk a b [98]) (.bin [37] A' B') [] = ((a.tmod b, 0), []) := (evl_bin _ [37] _ _ _ _ _ _ _ A B (by decide)).trans (by unfold opI; rw [if_pos (.inr rfl), if_neg h0, if_neg (by decide)])
  have e3 := evl_bin _ [42] _ _ _ _ _ _ _ e1 B (by decide)
  have e4 : ev (mk a b [98]) T5 [] = ((a, 0), []) := (evl_bin _ [43] _ _ _ _ _ _ _ e3 e2 (by decide)).trans (by
    show ((wrap64 (wrap64 (wrap64 (a.tdiv b) * b) + a.tmod b), (0 : Int)), ([] : Own)) = _
    rw [div_back a b ha])
  rw [valP_of _ _ T5 (by decide +kernel) _ 0 [] e4]
  rfl
theorem two6 (h0 : b = 0) : valP (mk a b [98]) [40, 97, 32, 47, 32, 98, 41, 32, 42, 32, 98, 32, 43, 32, 97, 32, 37, 32, 98] = (0, 22, []) := by
  have A := evA a b ha hb
  have B := evB a b ha hb
  have e1 : ev (mk a b [98]) (.bin [47] A' B') [] = ((0, 22), []) := (evl_bin _ [47] _ _ _ _ _ _ _ A B (by decide)).trans (by unfold opI; rw [if_pos (.inl rfl), if_pos h0])
  have e4 : ev (mk a b [98]) T5 [] = ((0, 22), []) := evl_err _ _ _ _ _ _ _ _ (evl_err _ _ _ _ _ _ _ _ e1 (by decide)) (by decide)
  rw [valP_of _ _ T5 (by decide +kernel) _ 22 [] e4]
  rfl
end
end Go.Proofs.YtncjelemjdkklaaDoor
