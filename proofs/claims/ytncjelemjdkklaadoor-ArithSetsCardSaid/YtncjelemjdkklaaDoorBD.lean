/- The walk of ArithBits. -/
import Derived.Test.YtncjelemjdkklaaDoorBC
import Derived.WalkKit
import Derived.ProofKit
import Derived.LaidLaws
import Derived.LaidMore
import Derived.Stop.LaidErr
import Derived.SevenTiedAt
import Derived.Stop.Joined
import Derived.Lay
import Derived.Lib.LaidTab
import Derived.Test.YtncjelemjdkklaaDoorRows
namespace Go.Proofs.YtncjelemjdkklaaDoor
open Go.RowKit Go.Shelf Go.ChangeShapes
set_option linter.unusedVariables false
set_option linter.unusedSimpArgs false
theorem int_wf {n : Int} (h : (Lit.int .i64 n).wf = true) : I64 n := by
  simp [Lit.wf] at h
  exact h
theorem env_of {W : World} (h : laidMetH Tryd.prog Rows.arithBitsRow.laid W) : Env W := by
  rw [MakeChecks.laidMetH_plain _ _ _ (by kernel_rfl)] at h
  have h2 : laidMet Tryd.prog (_ :: _ :: _ :: _ :: _ :: []) W := h
  have h3 := h2.tail.tail
  have e3 : (Rows.laid_internal_strconv_uint64pow10 : DataW Unit) = Lib.tabData .u64 Lib.pow10Tab := by kernel_rfl
  rw [e3] at h3
  exact Lib.tabIs_of_head (g := 0) (t := 93) (e := 36) (n := 20) (by kernel_rfl) (by kernel_rfl) (by kernel_rfl) (by kernel_rfl) (by kernel_rfl) (by kernel_rfl) h3
theorem giv_keep {W W' : World} {gv : Value} {g : List (Bs × Bs)} (h : Giv W W.heap.size gv g) (hb : Below W.heap.size W W') : Giv W' W'.heap.size gv g := by
  obtain ⟨ao, cap, h1, h2, h3, h4⟩ := h.fr (Fr.of_below (S := fun _ => False) hb) (fun _ _ => id)
  refine ⟨ao, cap, h1, h2, h3, fun i p hp => ?_⟩
  obtain ⟨h5, gb, off, h6, h7, r⟩ := h4 i p hp
  exact ⟨h5, gb, off, h6, Nat.lt_of_lt_of_le h7 hb.size, r⟩
abbrev two (W : World) (a b c d : Bs) : World := W.alloc (.cells #[.string (st a), .string (st b), .bool false, .bool false, .string (st c), .string (st d), .bool false, .bool false] 25)
/-- a row of two, just made. -/
theorem giv_new2 (W : World) (a b c d : Bs) (hb : b.length ≤ maxLen) (hd : d.length ≤ maxLen) : Giv (two W a b c d) (two W a b c d).heap.size (.slice (some ⟨W.heap.size, 0, none⟩) 2 2) [(a, b), (c, d)] := by
  have e := heap_alloc_new W (.cells #[.string (st a), .string (st b), .bool false, .bool false, .string (st c), .string (st d), .bool false, .bool false] 25)
  refine ⟨_, 2, rfl, Nat.le_refl _, by unfold maxLen; omega, fun i p hp => ?_⟩
  match i, hp with
  | 0, hp =>
    simp at hp
    subst hp
    refine ⟨hb, W.heap.size, 0, rfl, by simp [two], ?_, ?_, false, false, ?_, ?_⟩ <;> rw [Lib.cell_of_heap e] <;> rfl
  | 1, hp =>
    simp at hp
    subst hp
    refine ⟨hd, W.heap.size, 0, rfl, by simp [two], ?_, ?_, false, false, ?_, ?_⟩ <;> rw [Lib.cell_of_heap e] <;> rfl
theorem itoa_len {n : Int} (h : I64 n) : (Lib.itoa n).length ≤ 21 := Lib.itoa_length_le n h.1 h.2
theorem valP_of (g : List (Bs × Bs)) (s : Bs) (n : Nd) (h : parsed s = some n) (a e : Int) (o : Own) (hv : ev g n [] = ((a, e), o)) : valP g s = if e = 0 then (a, 0, o) else (0, e, []) := by
  unfold valP
  rw [h]
  dsimp only
  rw [hv]
abbrev A' : Nd := .nam [97]
abbrev K' : Nd := .nam [107]
abbrev B' : Nd := .nam [98]
abbrev mk (a k : Int) (c : Bs) : List (Bs × Bs) := [([97], Lib.itoa a), (c, Lib.itoa k)]
theorem getA (a k : Int) (c : Bs) (h : I64 a) : getV (mk a k c) [] [97] = (a, 0) := by
  unfold getV
  simp only [findO, findG, if_true]
  exact numV_itoa a h
theorem getK (a k : Int) (c : Bs) (hc : c ≠ [97]) (h : I64 k) : getV (mk a k c) [] c = (k, 0) := by
  unfold getV
  simp only [findO, findG, if_true, if_neg (Ne.symm hc)]
  exact numV_itoa k h
theorem evl_nam (g : List (Bs × Bs)) (s : Bs) (o : Own) : ev g (.nam s) o = (getV g o s, o) := rfl
theorem evl_num (g : List (Bs × Bs)) (n : Int) (o : Own) : ev g (.num n) o = ((n, 0), o) := rfl
theorem evl_bin (g : List (Bs × Bs)) (s : Bs) (l r : Nd) (o o1 o2 : Own) (a b : Int) (h1 : ev g l o = ((a, 0), o1)) (h2 : ev g r o1 = ((b, 0), o2)) (hs : s ≠ [38, 38] ∧ s ≠ [124, 124]) : ev g (.bin s l r) o = (opI s a b, o2) := by
  rw [ev, h1]
  dsimp only
  rw [if_pos rfl, if_neg (by simp [hs]), h2]
  rfl
theorem evl_pre (g : List (Bs × Bs)) (s : Bs) (r : Nd) (o o1 : Own) (a : Int) (h1 : ev g r o = ((a, 0), o1)) : ev g (.pre s r) o = ((preI s a, 0), o1) := by
  rw [ev, h1]
  rfl
theorem wrap_id {n : Int} (h : I64 n) : wrap64 n = n := by unfold I64 at h; unfold wrap64; omega
theorem w_0 : wrap64 0 = 0 := wrap_id ⟨by decide, by decide⟩
theorem w_m1 : wrap64 (-1) = -1 := wrap_id ⟨by decide, by decide⟩
theorem low6_and (k : Int) : low6 k = bits .and .u64 (IntKind.u64.wrap k) 63 := rfl
theorem bits1 (a k : Int) (ha : I64 a) (hk : I64 k) : valP (mk a k [107]) [97, 32, 60, 60, 32, 107] = (wrap64 (a * 2 ^ (low6 k).toNat), 0, []) := by
  rw [valP_of _ _ (.bin [60, 60] A' K') (by decide +kernel) (wrap64 (a * 2 ^ (low6 k).toNat)) 0 [] (evl_bin _ _ _ _ _ _ _ _ _ ((evl_nam _ _ _).trans (by rw [getA a k _ ha])) ((evl_nam _ _ _).trans (by rw [getK a k [107] (by decide) hk])) (by decide))]
  rfl
theorem bits2 (a k : Int) (ha : I64 a) (hk : I64 k) : valP (mk a k [107]) [97, 32, 62, 62, 32, 107] = (a / 2 ^ (low6 k).toNat, 0, []) := by
  rw [valP_of _ _ (.bin [62, 62] A' K') (by decide +kernel) (a / 2 ^ (low6 k).toNat) 0 [] (evl_bin _ _ _ _ _ _ _ _ _ ((evl_nam _ _ _).trans (by rw [getA a k _ ha])) ((evl_nam _ _ _).trans (by rw [getK a k [107] (by decide) hk])) (by decide))]
  rfl
theorem bits3 (a k : Int) (ha : I64 a) : valP (mk a k [107]) [40, 97, 32, 38, 32, 97, 41, 32, 45, 32, 40, 97, 32, 124, 32, 97, 41, 32, 43, 32, 40, 97, 32, 94, 32, 97, 41, 32, 43, 32, 40, 126, 97, 32, 43, 32, 97, 41] = (-1, 0, []) := by
  have hA : ev (mk a k [107]) A' [] = ((a, 0), []) := (evl_nam _ _ _).trans (by rw [getA a k _ ha])
  obtain ⟨b1, b2, b3⟩ := bits_three a ha
  have e1 : ev (mk a k [107]) (.bin [38] A' A') [] = ((a, 0), []) := (evl_bin _ _ _ _ _ _ _ _ _ hA hA (by decide)).trans (by show ((bits .and .i64 a a, (0 : Int)), ([] : Own)) = _; rw [b1])
  have e2 : ev (mk a k [107]) (.bin [124] A' A') [] = ((a, 0), []) := (evl_bin _ _ _ _ _ _ _ _ _ hA hA (by decide)).trans (by show ((bits .or .i64 a a, (0 : Int)), ([] : Own)) = _; rw [b2])
  have e3 : ev (mk a k [107]) (.bin [94] A' A') [] = ((0, 0), []) := (evl_bin _ _ _ _ _ _ _ _ _ hA hA (by decide)).trans (by show ((bits .xor .i64 a a, (0 : Int)), ([] : Own)) = _; rw [b3])
  have e4 : ev (mk a k [107]) (.pre [126] A') [] = ((-1 - a, 0), []) := (evl_pre _ _ _ _ _ _ hA).trans (by show ((bits .xor .i64 (-1) a, (0 : Int)), ([] : Own)) = _; rw [bits_not a ha])
  have e5 : ev (mk a k [107]) (.bin [43] (.pre [126] A') A') [] = ((-1, 0), []) := (evl_bin _ _ _ _ _ _ _ _ _ e4 hA (by decide)).trans (by show ((wrap64 (-1 - a + a), (0 : Int)), ([] : Own)) = _; rw [show -1 - a + a = -1 by omega, w_m1])
  have e6 : ev (mk a k [107]) (.bin [45] (.bin [38] A' A') (.bin [124] A' A')) [] = ((0, 0), []) := (evl_bin _ _ _ _ _ _ _ _ _ e1 e2 (by decide)).trans (by show ((wrap64 (a - a), (0 : Int)), ([] : Own)) = _; rw [show a - a = 0 by omega, w_0])
  have e7 := evl_bin _ [43] _ _ _ _ _ _ _ e6 e3 (by decide)
  have e8 := evl_bin _ [43] _ _ _ _ _ _ _ e7 e5 (by decide)
  rw [valP_of _ _ _ (show parsed _ = some (.bin [43] (.bin [43] (.bin [45] (.bin [38] A' A') (.bin [124] A' A')) (.bin [94] A' A')) (.bin [43] (.pre [126] A') A')) by decide +kernel) (-1) 0 [] (e8.trans (by show ((wrap64 (wrap64 (0 + 0) + -1), (0 : Int)), ([] : Own)) = _; rw [show (0 : Int) + 0 = 0 from rfl, w_0, show (0 : Int) + -1 = -1 from rfl, w_m1]))]
  rfl
theorem low6_i64 (k : Int) (hk : I64 k) : bits .and .i64 k 63 = low6 k ∧ 0 ≤ low6 k ∧ low6 k ≤ 63 := by
  have h1 := BitVec.toNat_and (bv k) (bv 63)
  have h2 : (bv k &&& bv 63).toNat ≤ 63 := by
    rw [h1, show (bv 63).toNat = 63 from by decide +kernel]; exact Nat.and_le_right
  have e : low6 k = ((bv k &&& bv 63).toNat : Int) := by
    show IntKind.u64.wrap ((BitVec.ofInt 64 (IntKind.u64.wrap k) &&& BitVec.ofInt 64 63).toNat : Int) = _
    have : BitVec.ofInt 64 (IntKind.u64.wrap k) = bv k := by
      apply BitVec.eq_of_toNat_eq
      unfold bv
      rw [BitVec.toNat_ofInt, BitVec.toNat_ofInt, u64_wrap]
      congr 1; omega
    rw [this, u64_wrap, show BitVec.ofInt 64 63 = bv 63 from rfl]
    omega
  have e2 : bits .and .i64 k 63 = ((bv k &&& bv 63).toNat : Int) := by
    rw [bits_and, ← wrap_bv, IntKind.wrap_i64]
    omega
  exact ⟨by rw [e2, e], by omega, by omega⟩
end Go.Proofs.YtncjelemjdkklaaDoor
