/- Names with strokes and dots between: plain facts on lists. -/
import Derived.Test.YtiiomflffnmhnaaDoorS5
namespace Go.Proofs.YtiiomflffnmhnaaDoor
open Go

/-- the gaps, without their last stroke. -/
def gapI : Nat → List UInt8
  | 0 => []
  | 1 => [47]
  | 2 => [47, 46]
  | _ => [47, 46, 47, 47, 46]
/-- what stays of a path that is put together. -/
structure Good (abs : Bool) (l : List UInt8) (ns : List (List UInt8)) : Prop where
  ne : l ≠ []
  len : l.length ≤ 128
  long : anyLong l = false
  bad : anyBad l = false
  names : nam l = ns
  abs : absP l = abs
theorem Good.split {abs : Bool} {l : List UInt8} {ns : List (List UInt8)} (h : Good abs l ns) : splE l = 0 ∧ splN l = ns ∧ splAbs l = abs := by
  have hE := E_zero h.ne h.len h.long h.bad
  obtain ⟨e1, e2, _⟩ := ok_all hE
  exact ⟨hE, by rw [e1, h.names], by rw [e2, h.abs]⟩
theorem good_dot : Good false [46] [] := ⟨by simp, by simp, rfl, rfl, rfl, rfl⟩
theorem good_root : Good true [47] [] := ⟨by simp, by simp, rfl, rfl, rfl, rfl⟩
theorem abs_app (l r : List UInt8) (h : l ≠ []) : absP (l ++ r) = absP l := by
  unfold absP; cases l with
  | nil => exact absurd rfl h
  | cons c t => rfl
theorem gap_facts (l : List UInt8) (k : Nat) : anyLong (l ++ gapI k) = anyLong l ∧ anyBad (l ++ gapI k) = anyBad l ∧ nam (l ++ gapI k) = nam l := by
  unfold gapI
  split
  · rw [List.append_nil]; exact ⟨rfl, rfl, rfl⟩
  · refine ⟨(long_append l []).trans ?_, (bad_append l []).trans ?_, nam_end l⟩
    · show (anyLong l || false) = _; rw [Bool.or_false]
    · show (anyBad l || false) = _; rw [Bool.or_false]
  · refine ⟨(long_append l [46]).trans ?_, (bad_append l [46]).trans ?_, (nam_append l [46]).trans ?_⟩
    · show (anyLong l || false) = _; rw [Bool.or_false]
    · show (anyBad l || false) = _; rw [Bool.or_false]
    · show nam l ++ [] = _; rw [List.append_nil]
  · refine ⟨(long_append l [46, 47, 47, 46]).trans ?_, (bad_append l [46, 47, 47, 46]).trans ?_, (nam_append l [46, 47, 47, 46]).trans ?_⟩
    · show (anyLong l || false) = _; rw [Bool.or_false]
    · show (anyBad l || false) = _; rw [Bool.or_false]
    · show nam l ++ [] = _; rw [List.append_nil]
theorem Good.step {abs : Bool} {l n : List UInt8} {ns : List (List UInt8)} (h : Good abs l ns) (k : Nat) (hn : nameB n = true) (hlen : (l ++ gapI k ++ 47 :: n).length ≤ 128) : Good abs (l ++ gapI k ++ 47 :: n) (ns ++ [n]) := by
  obtain ⟨g1, g2, g3⟩ := gap_facts l k
  obtain ⟨f1, _⟩ := name_fwd hn
  obtain ⟨_, _, e2, e3⟩ := E_zero_inv f1
  refine ⟨by simp, hlen, ?_, ?_, ?_, ?_⟩
  · rw [long_append, g1, h.long, e2]; rfl
  · rw [bad_append, g2, h.bad, e3]; rfl
  · rw [nam_append, g3, h.names, name_nam hn]
  · rw [List.append_assoc, abs_app l _ h.ne, h.abs]
end Go.Proofs.YtiiomflffnmhnaaDoor
