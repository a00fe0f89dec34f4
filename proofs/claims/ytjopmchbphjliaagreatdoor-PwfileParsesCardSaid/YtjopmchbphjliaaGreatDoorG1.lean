/- What Parse gives, as a plain function; what holds between two rounds of its loop. -/
import Derived.Test.YtjopmchbphjliaaGreatDoorIt
namespace Go.Proofs.YtjopmchbphjliaaGreatDoor
open Go.RowKit Go.Shelf

def goU : List Usr → List ByteArray → List Usr × (Nat × Nat)
  | us, [] => (us, 0, 0)
  | us, s :: r => if (nextS us s).2 = 0 then goU (us ++ [(nextS us s).1]) r else ([], us.length + 1, (nextS us s).2)
def linesB (s : ByteArray) : List ByteArray := (linesS s.data.toList).map fun l => ⟨l.toArray⟩
def parseR (s : ByteArray) : List Usr × (Nat × Nat) := if 4096 < s.size then ([], 0, 10) else goU [] (linesB s)
/-- the lines that were handed on. -/
def bl (pre : List LineT) : List ByteArray := pre.map fun x => x.1
theorem bl_rows (ys : List LineT) : bl ys = (rowsOf ys).map fun l => ⟨l.toArray⟩ := by
  unfold bl rowsOf
  rw [List.map_map]
  rfl
theorem bl_app (pre : List LineT) (x : LineT) : bl (pre ++ [x]) = bl pre ++ [x.1] := by unfold bl; simp
theorem next_ok {us : List Usr} {s : ByteArray} (h : (nextS us s).2 = 0) : userS s = some (nextS us s).1 ∧ us.any (qName (nextS us s).1.name) = false ∧ us.length < 8 := by
  unfold nextS at h ⊢
  cases hu : userS s with
  | none => rw [hu] at h; simp at h
  | some u =>
    rw [hu] at h
    simp only at h ⊢
    by_cases h1 : us.any (qName u.name) = true
    · rw [if_pos h1] at h; simp at h
    · rw [if_neg h1] at h ⊢
      by_cases h2 : 8 ≤ us.length
      · rw [if_pos h2] at h; simp at h
      · rw [if_neg h2] at h ⊢
        exact ⟨rfl, Bool.eq_false_iff.2 h1, by omega⟩
theorem user_right {s : ByteArray} {u : Usr} (h : userS s = some u) : rightU u = true ∧ lineS u = s.data.toList := by
  unfold userS at h
  by_cases h6 : (partsB (trimB s)).length = 6
  · obtain ⟨a, b, c, d, e, f, hp⟩ := six _ h6
    rw [hp] at h
    cases hc : atoiO c.data.toList with
    | none => rw [userP_c _ _ _ _ _ _ _ hc] at h; cases h
    | some i =>
      cases hd : atoiO d.data.toList with
      | none => rw [userP_d _ _ _ _ _ _ _ hd] at h; cases h
      | some g =>
        rw [userP_some _ _ _ _ _ _ _ _ _ hc hd] at h
        by_cases hx : (rightU ⟨a, b, i, g, e, f⟩ && lineS ⟨a, b, i, g, e, f⟩ == s.data.toList) = true
        · rw [if_pos hx] at h
          obtain rfl := Option.some.inj h
          rw [Bool.and_eq_true, beq_iff_eq] at hx
          exact hx
        · rw [if_neg hx] at h; cases h
  · rw [userP_len _ _ h6] at h; cases h
theorem right_ok {u : Usr} (h : rightU u = true) : OkU u := by
  obtain ⟨h1, h2, h3, h4, h5, h6⟩ := right_parts h
  have a := name_len h1
  have b := pass_len h2
  have c := id_range h3
  have d := id_range h4
  have e := place_len h5
  have f := place_len h6
  rw [size_len] at a b e f
  unfold OkU maxLen
  omega
/-- these lines were well, and gave these users. -/
def Run (pre : List ByteArray) (us : List Usr) : Prop := (∀ r, goU [] (pre ++ r) = goU us r) ∧ us.length = pre.length ∧ us.length ≤ 8 ∧ ∀ u ∈ us, rightU u = true
theorem run_nil : Run [] [] := ⟨fun _ => rfl, rfl, by decide, fun u h => by cases h⟩
theorem run_next {pre : List ByteArray} {us : List Usr} (h : Run pre us) {s : ByteArray} (hk : (nextS us s).2 = 0) : Run (pre ++ [s]) (us ++ [(nextS us s).1]) := by
  refine ⟨fun r => ?_, by simp [h.2.1], by have := (next_ok hk).2.2; simp; omega, fun u hu => ?_⟩
  · rw [List.append_assoc, h.1]
    show goU us (s :: r) = _
    rw [goU, if_pos hk]
  · rcases List.mem_append.1 hu with hu | hu
    · exact h.2.2.2 u hu
    · rw [List.mem_singleton] at hu; subst hu
      exact (user_right (next_ok hk).1).1
/-- these lines were well but for the last one. -/
def Fell (pre : List ByteArray) (k e : Nat) : Prop := ∀ r, goU [] (pre ++ r) = ([], k, e)
theorem run_fell {pre : List ByteArray} {us : List Usr} (h : Run pre us) {s : ByteArray} (hk : (nextS us s).2 ≠ 0) : Fell (pre ++ [s]) (us.length + 1) (nextS us s).2 := by
  intro r
  rw [List.append_assoc, h.1]
  show goU us (s :: r) = _
  rw [goU, if_neg hk]
theorem run_small {us : List Usr} {s : ByteArray} (hk : (nextS us s).2 = 0) : us.length < 8 := (next_ok hk).2.2
def usCells (us : List Usr) : List Value := us.flatMap Usr.cells
theorem usCells_len (us : List Usr) : (usCells us).length = us.length * 6 := by
  unfold usCells
  induction us with
  | nil => rfl
  | cons u r ih => rw [List.flatMap_cons, List.length_append, ih, List.length_cons]; show 6 + _ = _; omega
theorem usCells_at (us : List Usr) (j : Nat) (u : Usr) (h : us[j]? = some u) (i : Nat) (hi : i < 6) : (usCells us)[j * 6 + i]? = u.cells[i]? := by
  unfold usCells
  induction us generalizing j with
  | nil => simp at h
  | cons x r ih =>
    rw [List.flatMap_cons]
    have hl : x.cells.length = 6 := rfl
    cases j with
    | zero =>
      simp at h; subst h
      rw [Nat.zero_mul, Nat.zero_add, List.getElem?_append_left (by omega)]
    | succ j =>
      rw [List.getElem?_append_right (by omega), hl, show (j + 1) * 6 + i - 6 = j * 6 + i by omega]
      exact ih j (by simpa using h)
/-- a fresh row of users reads as these. -/
theorem InUsers.of_row {W : World} {base : Nat} {p : Option Addr} {n cap : Nat} {us : List Usr} (h : W.ownsRow base 29 6 (.slice p n cap) us.length (usCells us)) (hok : ∀ u ∈ us, OkU u) :
    InUsers W p us.length us ∧ n = us.length ∧ us.length ≤ cap ∧ cap ≤ maxLen := by
  rcases h.2 with ⟨hv, h0⟩ | ⟨g, cap', cur, hv, hb, hg, hn, hc, hs, ht⟩
  · have := List.length_eq_zero_iff.1 h0
    subst this
    cases hv
    exact ⟨⟨rfl, fun j x hx => by simp at hx⟩, rfl, Nat.le_refl _, Nat.zero_le _⟩
  · cases hv
    refine ⟨⟨rfl, fun j u hj => ⟨hok u (List.mem_of_getElem? hj), g, 0, rfl, ?_⟩⟩, rfl, hn, hc⟩
    have hjl := (List.getElem?_eq_some_iff.1 hj).1
    have key : ∀ i v, i < 6 → u.cells[i]? = some v → W.cell? ⟨g, 0 + j * 6 + i, none⟩ = some v := fun i v hi hv => by
      rw [Nat.zero_add]
      have := h.cellAt (j * 6 + i) (by omega)
      rw [usCells_at us j u hj i hi, hv] at this
      exact this
    exact ⟨key 0 _ (by decide) rfl, key 1 _ (by decide) rfl, key 2 _ (by decide) rfl, key 3 _ (by decide) rfl, key 4 _ (by decide) rfl, key 5 _ (by decide) rfl⟩
end Go.Proofs.YtjopmchbphjliaaGreatDoor
