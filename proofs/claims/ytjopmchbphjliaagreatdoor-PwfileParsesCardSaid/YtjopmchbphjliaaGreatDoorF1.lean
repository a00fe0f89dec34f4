/- Who is found has it, and nobody ahead: plain facts of places. -/
import Derived.Test.YtjopmchbphjliaaGreatDoorH1
import Derived.Test.YtjopmchbphjliaaGreatDoorU3
import Derived.Test.YtjopmchbphjliaaGreatDoorE1
namespace Go.Proofs.YtjopmchbphjliaaGreatDoor
open Go.RowKit Go.Shelf

theorem findI_snoc (q : Usr → Bool) (l : List Usr) (u : Usr) : findI q (l ++ [u]) = if findI q l < 0 then (if q u = true then (l.length : Int) else -1) else findI q l := by
  induction l with
  | nil => show findI q [u] = _; unfold findI findI; by_cases h : q u = true <;> simp [h]
  | cons x xs ih =>
    rw [List.cons_append]
    unfold findI
    have hg := findI_ge q xs
    rw [ih]
    by_cases h : q x = true
    · simp [h]
    · by_cases h1 : findI q xs < 0
      · by_cases h2 : q u = true
        · simp [h, h1, h2]; omega
        · simp [h, h1, h2]
      · have h3 : ¬ (findI q xs + 1 < 0) := by omega
        simp [h, h1, h3]
theorem find_next (q : Usr → Bool) (us : List Usr) (k : Nat) (u : Usr) (hu : us[k]? = some u) :
    findI q (us.take (k + 1)) = if (q u && decide (findI q (us.take k) < 0)) = true then (k : Int) else findI q (us.take k) := by
  have hk := (List.getElem?_eq_some_iff.1 hu).1
  have hg := findI_ge q (us.take k)
  rw [(take_next us k u hu).1, findI_snoc, List.length_take, Nat.min_eq_left (by omega)]
  by_cases h1 : findI q (us.take k) < 0
  · rw [if_pos h1, decide_eq_true h1, Bool.and_true]
    by_cases h2 : q u = true
    · rw [if_pos h2, if_pos h2]
    · rw [if_neg h2, if_neg h2]; omega
  · rw [if_neg h1, decide_eq_false h1, Bool.and_false, if_neg (by decide)]
def fiRel (w : World) (us : List Usr) (s : ByteArray) (i : Int) (f o k : Value) (wr : World) : Prop :=
  ∃ j : Nat, j ≤ us.length ∧ k = .int .i64 j ∧ f = .int .i64 (findI (qName s) (us.take j)) ∧ o = .int .i64 (findI (qId i) (us.take j)) ∧ Below w.heap.size w wr
theorem three {e : Bool} {f k fn : Int} (h : fn = if (e && decide (f < 0)) = true then k else f) : (e = false ∧ fn = f) ∨ (e = true ∧ f < 0 ∧ fn = k) ∨ (e = true ∧ ¬ f < 0 ∧ fn = f) := by
  cases e
  · exact .inl ⟨rfl, h⟩
  · by_cases hf : f < 0
    · rw [decide_eq_true hf] at h; exact .inr (.inl ⟨rfl, hf, h⟩)
    · rw [decide_eq_false hf] at h; exact .inr (.inr ⟨rfl, hf, h⟩)
theorem val_inj {u v : Usr} (h : u.val = v.val) : u = v := by
  obtain ⟨a, b, c, d, e, f⟩ := u
  obtain ⟨a', b', c', d', e', f'⟩ := v
  unfold Usr.val at h
  cases h
  rfl
theorem found_at (q : Usr → Bool) (us : List Usr) (h : 0 ≤ findI q us) : ∃ k : Nat, findI q us = k ∧ us[k]? = some (findU q us) ∧ us.any q = true := by
  obtain ⟨k, u, h1, _, h3, h4⟩ := found_yes q us h
  unfold foundV at h4
  generalize findU q us = x at h4 ⊢
  generalize us.any q = y at h4 ⊢
  have h5 : x.val = u.val ∧ y = true := by
    generalize x.val = a at h4 ⊢
    generalize u.val = b at h4 ⊢
    cases h4
    exact ⟨rfl, rfl⟩
  exact ⟨k, h1, by rw [h3, val_inj h5.1], h5.2⟩
theorem found_two (q : Usr → Bool) (us : List Usr) : (findI q us < 0 ∧ us.any q = false) ∨ ∃ k : Nat, findI q us = k ∧ us[k]? = some (findU q us) ∧ us.any q = true := by
  by_cases h : findI q us < 0
  · exact .inl ⟨h, by rw [← findI_any, decide_eq_false (by omega)]⟩
  · exact .inr (found_at q us (by omega))
end Go.Proofs.YtjopmchbphjliaaGreatDoor
