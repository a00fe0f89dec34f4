/- Slices that came in, as the walk of PathStrokes wants them. -/
import Derived.Test.YtiiomflffnmhnaaDoorX5
import Derived.SliceStrings
import Derived.ChangeSlices
import Derived.DataReads
namespace Go.Proofs.YtiiomflffnmhnaaDoor
open Go.RowKit Go.Shelf

theorem plain_addr {W : World} {a : Addr} {i : Nat} {v v0 : Value} (h0 : W.cell? (a.add 0) = some v0) (h : W.cell? (a.add i) = some v) : ∃ b off, a = ⟨b, off, none⟩ ∧ W.cell? ⟨b, off + i, none⟩ = some v := by
  obtain ⟨b, off, spot⟩ := a
  have hs := World.cell?_spot h0
  unfold Addr.add at h hs
  rw [if_pos rfl] at hs
  have hs2 : spot = none := hs
  subst hs2
  refine ⟨b, off, rfl, ?_⟩
  by_cases hi : i = 0
  · subst hi; rw [if_pos rfl] at h; exact h
  · rw [if_neg hi] at h; exact h
theorem in_strs {W : World} {a : Addr} {len : Nat} {ss : List ByteArray} (hl : len ≤ ss.length) (hcell : ∀ i, i < ss.length → W.cell? (a.add i) = some (.string (ss.getD i ByteArray.empty))) (hw : ∀ s ∈ ss, s.size ≤ maxLen) :
    InStrs W (some a) len (ss.take len) := by
  refine ⟨by rw [List.length_take]; omega, fun j x hx => ?_⟩
  have hj : j < len := by have := (List.getElem?_eq_some_iff.1 hx).1; rw [List.length_take] at this; omega
  rw [List.getElem?_take_of_lt hj] at hx
  have hc := hcell j (by omega)
  rw [List.getD, hx] at hc
  obtain ⟨b, off, rfl, hc2⟩ := plain_addr (hcell 0 (by omega)) hc
  exact ⟨b, off, rfl, hc2, hw x (List.mem_of_getElem? hx)⟩
theorem in_ints {W : World} {a : Addr} {len : Nat} {zs : List Int} (hl : len ≤ zs.length) (hcell : ∀ i, i < zs.length → W.cell? (a.add i) = some (.int .i64 (zs.getD i 0))) :
    InInts W (some a) len (zs.take len) := by
  refine ⟨by rw [List.length_take]; omega, fun j x hx => ?_⟩
  have hj : j < len := by have := (List.getElem?_eq_some_iff.1 hx).1; rw [List.length_take] at this; omega
  rw [List.getElem?_take_of_lt hj] at hx
  have hc := hcell j (by omega)
  rw [List.getD, hx] at hc
  obtain ⟨b, off, rfl, hc2⟩ := plain_addr (hcell 0 (by omega)) hc
  exact ⟨b, off, rfl, hc2⟩
end Go.Proofs.YtiiomflffnmhnaaDoor
