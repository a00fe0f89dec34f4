/- A name put behind a path: plain facts on lists. -/
import Derived.Test.YtiiomflffnmhnaaDoorS4
namespace Go.Proofs.YtiiomflffnmhnaaDoor
open Go

theorem join_form (l n : List UInt8) (h0 : l ≠ []) : ∃ x, joinS l n = x ++ 47 :: n ∧ (l = x ∨ l = x ++ [47]) := by
  unfold joinS
  rw [if_neg h0]
  by_cases h : l.getLast? = some 47
  · rw [if_pos h]
    obtain ⟨x, hx⟩ := List.getLast?_eq_some_iff.1 h
    exact ⟨x, by rw [hx]; simp, Or.inr hx⟩
  · rw [if_neg h]; exact ⟨l, rfl, Or.inl rfl⟩
theorem spl_empty : spl [] = [[]] := rfl
theorem nam_end (x : List UInt8) : nam (x ++ [47]) = nam x := by
  rw [nam_append]; show nam x ++ nam [] = nam x
  have : nam [] = [] := rfl
  rw [this, List.append_nil]
theorem long_append (a b : List UInt8) : anyLong (a ++ 47 :: b) = (anyLong a || anyLong b) := by
  unfold anyLong; rw [spl_append, List.any_append]
theorem bad_append (a b : List UInt8) : anyBad (a ++ 47 :: b) = (anyBad a || anyBad b) := by
  unfold anyBad; rw [List.any_append, List.any_cons]; rfl
theorem join_all {l n : List UInt8} (hl : splE l = 0) (hn : nameB n = true) (hlen : (joinS l n).length ≤ 128) :
    splE (joinS l n) = 0 ∧ splN (joinS l n) = splN l ++ [n] ∧ splAbs (joinS l n) = splAbs l ∧ splDir (joinS l n) = false := by
  obtain ⟨h0, h1, h2, h3⟩ := E_zero_inv hl
  obtain ⟨f1, f2, f3, f4⟩ := name_fwd hn
  obtain ⟨g0, g1, g2, g3⟩ := E_zero_inv f1
  obtain ⟨p1, p2, p3, p4, p5, p6⟩ := name_parts hn
  obtain ⟨x, hj, hx⟩ := join_form l n h0
  obtain ⟨e1, e2, e3⟩ := ok_all hl
  have hlx : anyLong x = false ∧ anyBad x = false ∧ nam x = nam l ∧ absP (x ++ 47 :: n) = absP l := by
    rcases hx with rfl | rfl
    · refine ⟨h2, h3, rfl, ?_⟩
      unfold absP
      cases l with
      | nil => exact absurd rfl h0
      | cons c r => rfl
    · rw [long_append, Bool.or_eq_false_iff] at h2
      rw [bad_append, Bool.or_eq_false_iff] at h3
      refine ⟨h2.1, h3.1, (nam_end x).symm, ?_⟩
      unfold absP
      cases x <;> rfl
  have hE : splE (joinS l n) = 0 := by
    refine E_zero (by rw [hj]; simp) hlen ?_ ?_
    · rw [hj, long_append, hlx.1, g2]; rfl
    · rw [hj, bad_append, hlx.2.1, g3]; rfl
  obtain ⟨k1, k2, k3⟩ := ok_all hE
  refine ⟨hE, ?_, ?_, ?_⟩
  · rw [k1, e1, hj, nam_append, hlx.2.2.1, name_nam hn]
  · rw [k2, e2, hj, hlx.2.2.2]
  · rw [k3, hj]
    unfold dirP
    rw [lastP_tail, (tail_of x n p6).1, beq_eq_false_iff_ne.2 p3, beq_eq_false_iff_ne.2 p4, beq_eq_false_iff_ne.2 (fun e => by subst e; simp at p1)]; rfl
theorem join_base {l n : List UInt8} (h0 : l ≠ []) (hn : nameB n = true) : (baseS (joinS l n)).2 = n := by
  obtain ⟨p1, p2, p3, p4, p5, p6⟩ := name_parts hn
  obtain ⟨x, hj, _⟩ := join_form l n h0
  have hne : n ≠ [] := fun e => by subst e; simp at p1
  obtain ⟨r, c, hrc⟩ : ∃ r c, n = r ++ [c] := ⟨n.dropLast, n.getLast hne, (List.dropLast_concat_getLast hne).symm⟩
  have hc : c ≠ 47 := p6 c (by rw [hrc]; simp)
  have ht : trimS (joinS l n) = joinS l n := by
    have e : joinS l n = (x ++ 47 :: r) ++ [c] := by rw [hj, hrc]; simp
    rw [e]
    unfold trimS Lib.trimRightB
    rw [List.reverse_append, List.reverse_singleton, List.singleton_append, List.dropWhile_cons, if_neg (by simpa using hc)]
    simp
  unfold baseS
  rw [ht, if_neg (by rw [hj]; simp)]
  show tailS (joinS l n) = n
  rw [hj]; exact (tail_of x n p6).1
theorem join_len {l n : List UInt8} (h0 : l ≠ []) : (joinS l n).length ≤ l.length + n.length + 1 := by
  obtain ⟨x, hj, hx⟩ := join_form l n h0
  rw [hj]
  rcases hx with rfl | rfl <;> simp <;> omega
end Go.Proofs.YtiiomflffnmhnaaDoor
