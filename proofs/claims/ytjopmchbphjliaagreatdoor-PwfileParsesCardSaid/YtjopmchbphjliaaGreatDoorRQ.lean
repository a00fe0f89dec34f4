/- Plain facts for the document's Parse: lines by their ends. -/
import Derived.Test.YtjopmchbphjliaaGreatDoorRP
namespace Go.Proofs.YtjopmchbphjliaaGreatDoor
open Go.RowKit Go.Shelf

theorem piece_split {l : List UInt8} {f t : Nat} {c : UInt8} (hf : f ≤ t) (ht : l[t]? = some c) : l.drop f = (l.take t).drop f ++ c :: l.drop (t + 1) := by
  have hl := (List.getElem?_eq_some_iff.1 ht).1
  have h1 : l = l.take t ++ l.drop t := (List.take_append_drop t l).symm
  rw [drop_cons l t c ht] at h1
  have h2 : l.drop f = (l.take t ++ c :: l.drop (t + 1)).drop f := by rw [← h1]
  rw [h2, List.drop_append_of_le_length (by rw [List.length_take]; omega)]
theorem piece_no {l : List UInt8} {f t : Nat} (hno : ∀ j, f ≤ j → j < t → l[j]? ≠ some 10) : ∀ c ∈ (l.take t).drop f, c ≠ 10 := by
  intro c hc e
  subst e
  obtain ⟨j, hj⟩ := List.getElem?_of_mem hc
  rw [List.getElem?_drop] at hj
  have hlt : f + j < t := by have := (List.getElem?_eq_some_iff.1 hj).1; rw [List.length_take] at this; omega
  rw [List.getElem?_take_of_lt hlt] at hj
  exact hno (f + j) (by omega) hlt hj
theorem lines_at {l : List UInt8} {f t : Nat} (hf : f ≤ t) (ht : l[t]? = some 10) (hno : ∀ j, f ≤ j → j < t → l[j]? ≠ some 10) : linesS (l.drop f) = ((l.take t).drop f ++ [10]) :: linesS (l.drop (t + 1)) := by
  rw [piece_split hf ht, lines_app _ _ (piece_no hno)]
theorem lines_tail {l : List UInt8} {f : Nat} (hf : f < l.length) (hno : ∀ j, f ≤ j → j < l.length → l[j]? ≠ some 10) : linesS (l.drop f) = [l.drop f] := by
  have h := piece_no hno
  rw [List.take_length] at h
  exact lines_last _ h (fun e => by rw [List.drop_eq_nil_iff] at e; omega)
def mkB (l : List UInt8) : ByteArray := ⟨l.toArray⟩
/-- what holds at the head of the loop over lines. -/
def rpI (l : List UInt8) (us : List Usr) (f : Nat) : Prop := goU [] ((linesS l).map mkB) = goU us ((linesS (l.drop f)).map mkB) ∧ us.length ≤ 8 ∧ ∀ u ∈ us, rightU u = true
theorem rp_start (l : List UInt8) : rpI l [] 0 := ⟨rfl, by decide, fun u h => by cases h⟩
theorem rp_tail {l : List UInt8} {us : List Usr} {f : Nat} (h : rpI l us f) (hf : f < l.length) (hno : ∀ j, f ≤ j → j < l.length → l[j]? ≠ some 10) : goU [] ((linesS l).map mkB) = ([], us.length + 1, 17) := by
  rw [h.1, lines_tail hf hno]
  have hn : userS (mkB (l.drop f)) = none := by
    refine no_user ?_
    show (l.drop f).getLast? ≠ some 10
    intro e
    have hc := piece_no hno
    rw [List.take_length] at hc
    exact hc 10 (List.mem_of_getLast? e) rfl
  have hx : nextS us (mkB (l.drop f)) = (noUsr, 17) := by unfold nextS; rw [hn]
  show goU us [mkB (l.drop f)] = _
  rw [goU, hx]
  rfl
theorem rp_line {l : List UInt8} {us : List Usr} {f t : Nat} (h : rpI l us f) (hf : f ≤ t) (ht : l[t]? = some 10) (hno : ∀ j, f ≤ j → j < t → l[j]? ≠ some 10) :
    goU [] ((linesS l).map mkB) = if (nextS us (lnB ((l.take t).drop f))).2 = 0 then goU (us ++ [(nextS us (lnB ((l.take t).drop f))).1]) ((linesS (l.drop (t + 1))).map mkB) else ([], us.length + 1, (nextS us (lnB ((l.take t).drop f))).2) := by
  rw [h.1, lines_at hf ht hno]
  show goU us (lnB _ :: _) = _
  rw [goU]
theorem rp_err {l : List UInt8} {us : List Usr} {f t e : Nat} {x : ByteArray} (h : rpI l us f) (hf : f ≤ t) (ht : l[t]? = some 10) (hno : ∀ j, f ≤ j → j < t → l[j]? ≠ some 10) (hx : lnB ((l.take t).drop f) = x) (he : e ≠ 0) (hn : nextS us x = (noUsr, e)) :
    goU [] ((linesS l).map mkB) = ([], us.length + 1, e) := by
  rw [rp_line h hf ht hno, hx, hn, if_neg he]
theorem next_none {us : List Usr} {x : ByteArray} (h : userS x = none) : nextS us x = (noUsr, 17) := by unfold nextS; rw [h]
theorem next_is {us : List Usr} {x : ByteArray} {u : Usr} (h : userS x = some u) (ha : us.any (qName u.name) = true) : nextS us x = (noUsr, 5) := by unfold nextS; rw [h]; simp only; rw [if_pos ha]
theorem next_many {us : List Usr} {x : ByteArray} {u : Usr} (h : userS x = some u) (ha : us.any (qName u.name) = false) (h8 : us.length = 8) : nextS us x = (noUsr, 12) := by
  unfold nextS; rw [h]; simp only; rw [if_neg (by rw [ha]; decide), if_pos (by omega)]
theorem rp_next {l : List UInt8} {us : List Usr} {f t : Nat} {x : ByteArray} {u : Usr} (h : rpI l us f) (hf : f ≤ t) (ht : l[t]? = some 10) (hno : ∀ j, f ≤ j → j < t → l[j]? ≠ some 10) (hx : lnB ((l.take t).drop f) = x)
    (hu : userS x = some u) (ha : us.any (qName u.name) = false) (h8 : us.length < 8) : rpI l (us ++ [u]) (t + 1) := by
  have hn : nextS us x = (u, 0) := by unfold nextS; rw [hu]; simp only; rw [if_neg (by rw [ha]; decide), if_neg (by omega)]
  refine ⟨by rw [rp_line h hf ht hno, hx, hn, if_pos rfl], by simp; omega, fun v hv => ?_⟩
  rcases List.mem_append.1 hv with hv | hv
  · exact h.2.2 v hv
  · rw [List.mem_singleton] at hv; subst hv
    exact (user_right hu).1
theorem rp_end {l : List UInt8} {us : List Usr} {f : Nat} (h : rpI l us f) (hf : l.length ≤ f) : goU [] ((linesS l).map mkB) = (us, 0, 0) := by
  rw [h.1, List.drop_of_length_le hf]; rfl
end Go.Proofs.YtjopmchbphjliaaGreatDoor
