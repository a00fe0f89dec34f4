/- Many users of unlike names: plain facts. -/
import Derived.Test.YtjopmchbphjliaaDoorH1
import Derived.Test.YtjopmchbphjliaaDoorK2
namespace Go.Proofs.YtjopmchbphjliaaDoor
open Go.RowKit Go.Shelf

def manyU (i : Nat) : Usr := ⟨⟨#[117, UInt8.ofNat (97 + i)]⟩, ⟨#[42]⟩, 7, 7, ⟨#[47]⟩, ⟨#[47, 98, 105, 110, 47, 115, 104]⟩⟩
def manyL (n : Nat) : List Usr := (List.range n).map manyU
def manyS (n : Nat) : ByteArray := ⟨(linesOf (manyL n)).toArray⟩
theorem itoa_seven : Lib.itoa 7 = [55] := by unfold Lib.itoa; rw [if_neg (by decide)]; exact Lib.decDigits_one (by decide)
theorem many_line (i : Nat) : lineS (manyU i) = [117, UInt8.ofNat (97 + i)] ++ [58, 42, 58, 55, 58, 55, 58, 47, 58, 47, 98, 105, 110, 47, 115, 104, 10] := by
  unfold lineS fieldsS
  show Lib.join [_, _, Lib.itoa 7, Lib.itoa 7, _, _] [58] ++ [10] = _
  rw [itoa_seven]; rfl
theorem manyL_next (n : Nat) : manyL (n + 1) = manyL n ++ [manyU n] := by
  unfold manyL; rw [List.range_succ, List.map_append]; rfl
theorem many_next (n : Nat) : linesOf (manyL (n + 1)) = linesOf (manyL n) ++ ([117] ++ ([UInt8.ofNat (97 + n)] ++ [58, 42, 58, 55, 58, 55, 58, 47, 58, 47, 98, 105, 110, 47, 115, 104, 10])) := by
  rw [manyL_next]
  unfold linesOf
  rw [List.map_append, List.flatten_append, List.map_cons, List.map_nil, List.flatten_cons, many_line]; rfl
theorem many_size (n : Nat) : (manyS n).size = 19 * n := by
  rw [← size_len]
  show (linesOf (manyL n)).length = _
  induction n with
  | zero => rfl
  | succ n ih => rw [many_next, List.length_append, ih]; simp; omega
theorem manyS_next (n : Nat) : manyS (n + 1) = manyS n ++ ⟨#[117]⟩ ++ ⟨#[UInt8.ofNat (97 + n)]⟩ ++ ⟨#[58, 42, 58, 55, 58, 55, 58, 47, 58, 47, 98, 105, 110, 47, 115, 104, 10]⟩ := by
  apply Mx.list_eq
  have h : ∀ a b : ByteArray, (a ++ b).data.toList = a.data.toList ++ b.data.toList := fun a b => by rw [ByteArray.data_append]; simp
  rw [h, h, h]
  show linesOf (manyL (n + 1)) = linesOf (manyL n) ++ _ ++ _ ++ _
  rw [many_next]
  simp
theorem many_right : ∀ k : Fin 16, rightU (manyU k) = true := by decide +kernel
theorem many_rightL : ∀ k : Fin 9, rightL (manyL k) = true := by decide +kernel
theorem many_none : ∀ k : Fin 9, (manyL k).any (qName (manyU k).name) = false := by decide +kernel
theorem many_few {n : Nat} (h : n ≤ 8) : parseR (manyS n) = (manyL n, 0, 0) := parse_print (many_rightL ⟨n, by omega⟩) _ rfl
theorem many_all {n : Nat} (h : n ≤ 16) : ∀ u ∈ manyL n, rightU u = true := by
  intro u hu
  unfold manyL at hu
  obtain ⟨i, hi, rfl⟩ := List.mem_map.1 hu
  exact many_right ⟨i, by rw [List.mem_range] at hi; omega⟩
theorem many_split (m : Nat) : ∃ r, manyL (9 + m) = manyL 8 ++ (manyU 8 :: r) := by
  induction m with
  | zero => exact ⟨[], rfl⟩
  | succ m ih =>
    obtain ⟨r, hr⟩ := ih
    refine ⟨r ++ [manyU (9 + m)], ?_⟩
    rw [show 9 + (m + 1) = (9 + m) + 1 from rfl, manyL_next, hr]; simp
theorem many_many {n : Nat} (h : 8 < n) (hn : n ≤ 15) : parseR (manyS n) = ([], 9, 12) := by
  have hs := many_size n
  unfold parseR
  rw [if_neg (by omega)]
  obtain ⟨m, rfl⟩ : ∃ m, n = 9 + m := ⟨n - 9, by omega⟩
  obtain ⟨r, hr⟩ := many_split m
  have hls : (linesB (manyS (9 + m))).map (·.data.toList) = (manyL 8).map lineS ++ (lineS (manyU 8) :: r.map lineS) := by
    rw [linesB_data]
    show linesS (linesOf (manyL (9 + m))) = _
    have := lines_of (manyL (9 + m)) [] (many_all (by omega))
    rw [List.append_nil, show linesS [] = [] from rfl, List.append_nil, hr, List.map_append, List.map_cons] at this
    rw [hr]; exact this
  obtain ⟨l1, l2, he, m1, m2⟩ := List.map_eq_append_iff.1 hls
  rw [he, goU_complete l1 [] (manyL 8) l2 (by have := many_rightL ⟨8, by omega⟩; unfold rightL at this; rw [Bool.and_eq_true] at this; exact this.2) (by decide) m1, List.nil_append]
  cases l2 with
  | nil => simp at m2
  | cons x t =>
    simp only [List.map_cons, List.cons.injEq] at m2
    have hux := user_of (many_right ⟨8, by omega⟩) m2.1.symm
    have hn : nextS (manyL 8) x = (noUsr, 12) := by
      unfold nextS
      rw [hux]
      simp only
      rw [many_none ⟨8, by omega⟩, if_neg Bool.false_ne_true, if_pos (by decide)]
    rw [goU, hn, if_neg (by decide)]
    rfl
theorem manyL_len (n : Nat) : (manyL n).length = n := by unfold manyL; simp
theorem mask15 (m : Int) : ∃ k : Nat, k ≤ 15 ∧ bits .and .i64 m 15 = (k : Int) := by
  have ho : ∀ z : Int, (BitVec.ofInt 64 z).toNat = (z % 18446744073709551616).toNat := fun z => by rw [BitVec.toNat_ofInt]; rfl
  have h : (m % 18446744073709551616).toNat &&& 15 ≤ 15 := Nat.and_le_right
  refine ⟨(m % 18446744073709551616).toNat &&& 15, h, ?_⟩
  show IntKind.i64.wrap ((BitVec.ofInt 64 m &&& BitVec.ofInt 64 (15 : Int)).toNat : Int) = _
  rw [BitVec.toNat_and, ho, ho, show ((15 : Int) % 18446744073709551616).toNat = 15 from rfl]
  rw [IntKind.wrap_i64]; omega
end Go.Proofs.YtjopmchbphjliaaDoor
