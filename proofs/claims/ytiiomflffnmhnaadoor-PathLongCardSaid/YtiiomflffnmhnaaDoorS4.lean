/- Paths of many like names: plain facts on lists. -/
import Derived.Test.YtiiomflffnmhnaaDoorS3
import Derived.Laws.BitsLemmas
namespace Go.Proofs.YtiiomflffnmhnaaDoor
open Go

def rep (S i : Nat) : List UInt8 := (List.replicate i (47 :: List.replicate S 110)).flatten
theorem rep_succ (S i : Nat) : rep S (i + 1) = rep S i ++ 47 :: List.replicate S 110 := by
  unfold rep; rw [List.replicate_succ', List.flatten_append]; simp
theorem rep_plain (S : Nat) : ∀ c ∈ List.replicate S (110 : UInt8), c ≠ 47 := by
  intro c hc; rw [List.eq_of_mem_replicate hc]; decide
theorem spl_rep (S i : Nat) : spl (rep S i) = [] :: List.replicate i (List.replicate S 110) := by
  induction i with
  | zero => rfl
  | succ i ih => rw [rep_succ, spl_append, ih, spl_one _ (rep_plain S), List.replicate_succ' (n := i)]; rfl
theorem rep_keep (S : Nat) (h : 1 ≤ S) : keepN (List.replicate S 110) = true := by
  obtain ⟨s, rfl⟩ : ∃ s, S = s + 1 := ⟨S - 1, by omega⟩
  unfold keepN
  rw [List.replicate_succ]
  cases s <;> rfl
theorem nam_rep (S i : Nat) (h : 1 ≤ S) : nam (rep S i) = List.replicate i (List.replicate S 110) := by
  unfold nam
  rw [spl_rep, List.filter_cons, if_neg (by decide)]
  rw [List.filter_eq_self]
  intro a ha; rw [List.eq_of_mem_replicate ha]; exact rep_keep S h
theorem long_rep (S i : Nat) (hi : 1 ≤ i) : anyLong (rep S i) = decide (14 < S) := by
  unfold anyLong
  rw [spl_rep, List.any_cons]
  obtain ⟨j, rfl⟩ : ∃ j, i = j + 1 := ⟨i - 1, by omega⟩
  rw [Bool.eq_iff_iff, Bool.or_eq_true, List.any_eq_true, decide_eq_true_eq]
  constructor
  · rintro (h | ⟨x, hx, h⟩)
    · cases h
    · rw [List.eq_of_mem_replicate hx] at h; unfold longN at h; simpa using h
  · intro h
    exact Or.inr ⟨_, by rw [List.replicate_succ]; exact List.mem_cons_self .., by unfold longN; simpa using h⟩
theorem bad_rep (S i : Nat) : anyBad (rep S i) = false := by
  unfold anyBad
  rw [List.any_eq_false]
  intro c hc
  unfold rep at hc
  obtain ⟨l, hl, hc⟩ := List.mem_flatten.1 hc
  rw [List.eq_of_mem_replicate hl] at hc
  rcases List.mem_cons.1 hc with rfl | hc
  · decide
  · rw [List.eq_of_mem_replicate hc]; decide
theorem len_rep (S i : Nat) : (rep S i).length = i * (S + 1) := by
  induction i with
  | zero => simp [rep]
  | succ i ih => rw [rep_succ, List.length_append, ih, List.length_cons, List.length_replicate, Nat.succ_mul]
theorem rep_cons (S i : Nat) (hi : 1 ≤ i) : ∃ r, rep S i = 47 :: r := by
  obtain ⟨j, rfl⟩ : ∃ j, i = j + 1 := ⟨i - 1, by omega⟩
  unfold rep; rw [List.replicate_succ, List.flatten_cons]; exact ⟨_, rfl⟩
theorem rep_long (S i : Nat) (hi : 1 ≤ i) (h : 128 < (rep S i).length ∨ 14 < S) : splE (rep S i) = 10 := by
  obtain ⟨r, hr⟩ := rep_cons S i hi
  unfold splE
  rw [if_neg (by rw [hr]; simp), long_rep S i hi]
  by_cases h1 : 128 < (rep S i).length
  · rw [if_pos h1]
  · rw [if_neg h1, if_pos (decide_eq_true (h.resolve_left h1))]
theorem rep_ok (S i : Nat) (hi : 1 ≤ i) (hS : 1 ≤ S) (h1 : ¬ 128 < (rep S i).length) (h2 : ¬ 14 < S) :
    splE (rep S i) = 0 ∧ splN (rep S i) = List.replicate i (List.replicate S 110) ∧ splAbs (rep S i) = true ∧ splDir (rep S i) = false := by
  obtain ⟨r, hr⟩ := rep_cons S i hi
  have hE : splE (rep S i) = 0 := E_zero (by rw [hr]; simp) (by omega) (by rw [long_rep S i hi, decide_eq_false h2]) (bad_rep S i)
  obtain ⟨e1, e2, e3⟩ := ok_all hE
  refine ⟨hE, by rw [e1, nam_rep S i hS], by rw [e2, hr]; rfl, ?_⟩
  rw [e3]
  unfold dirP
  have hl : lastP (rep S i) = List.replicate S 110 := by
    unfold lastP
    obtain ⟨j, rfl⟩ : ∃ j, i = j + 1 := ⟨i - 1, by omega⟩
    rw [spl_rep, List.replicate_succ', ← List.cons_append, List.getLastD_concat]
  rw [hl]
  obtain ⟨s, rfl⟩ : ∃ s, S = s + 1 := ⟨S - 1, by omega⟩
  rw [List.replicate_succ]
  cases s with
  | zero => rfl
  | succ s => rw [List.replicate_succ]; cases s <;> rfl
theorem and_nat (a : Int) (k : Nat) (hk : k < 9223372036854775808) : ∃ n : Nat, n ≤ k ∧ bits .and .i64 a (k : Int) = (n : Int) := by
  have h : (BitVec.ofInt 64 a &&& BitVec.ofInt 64 (k : Int)).toNat ≤ k := by
    rw [BitVec.toNat_and]
    have e : (BitVec.ofInt 64 (k : Int)).toNat = k := by rw [BitVec.toNat_ofInt]; show ((k : Int) % 18446744073709551616).toNat = k; omega
    rw [e]; exact Nat.and_le_right
  refine ⟨_, h, ?_⟩
  show IntKind.i64.wrap ((BitVec.ofInt 64 a &&& BitVec.ofInt 64 (k : Int)).toNat : Int) = _
  rw [IntKind.wrap_i64]; omega
end Go.Proofs.YtiiomflffnmhnaaDoor
