/- Arguments that are slices of strings. -/
import Derived.Test.YtacohhmhggljhaaHN
import Derived.Deep.Slices
import Derived.DataReads
import Derived.Deep.Fields
import Derived.ChangeSame
namespace Go.Proofs.Ytacohhmhggljhaa
open Go.RowKit Go.ChangeShapes Go.WideShapes Go.Deep
set_option linter.unusedVariables false
set_option linter.unusedSimpArgs false
/-- a slice that reads as these. -/
def InRow {α : Type} (mk : α → Value) (ok : α → Prop) (W : World) (p : Option Addr) (n : Nat) (zs : List α) : Prop :=
  zs.length = n ∧ ∀ (j : Nat) (z : α), zs[j]? = some z → ∃ g off, p = some ⟨g, off, none⟩ ∧ W.cell? ⟨g, off + j, none⟩ = some (mk z) ∧ ok z
abbrev InStrs := InRow Value.string (fun s : ByteArray => s.size ≤ maxLen)
theorem addr_plain {W : World} {a : Addr} {v0 : Value} (h0 : W.cell? a = some v0) : ∃ b off, a = ⟨b, off, none⟩ := by
  obtain ⟨b, off, spot⟩ := a
  have hs2 : spot = none := World.cell?_spot h0
  subst hs2
  exact ⟨b, off, rfl⟩
section
variable {H : Type} {enc : TypeId × Value → H} {w : World} {base : Nat} {held : Bool}
theorem open_row {α : Type} [Inhabited α] (mk : α → Value) (ok : α → Prop) {t e : TypeId} (ht : Try.prog.underlying t = some (.slice e)) (hc : Try.prog.cellsOf e = 1)
    (inv : ∀ (n : Nat) (cs : List Value) (y : DataW H × List MemPlace), DataW.trod enc Try.prog w base (fun _ => true) held n e cs = some y → ∃ z, cs = [mk z] ∧ ok z)
    {n : Nat} {p : Option Addr} {len cap : Nat} {x : DataW H × List MemPlace} (h : DataW.trod enc Try.prog w base (fun _ => true) held n t [.slice p len cap] = some x) :
    ∃ zs, InRow mk ok w p len zs ∧ len ≤ maxLen := by
  rcases open_slice ht h with ⟨hcs, _⟩ | ⟨a, len', cap', m, n', D, Pl, hcs, _, hl, hm, hmm, _, hi⟩
  · cases hcs
    exact ⟨[], ⟨rfl, fun j u hj => by cases hj⟩, Nat.zero_le _⟩
  · cases hcs
    have hmm' : m = cap := hmm
    subst hmm'
    rw [hc] at hi
    have hu : ∀ i, i < m → ∃ u : α, w.cell? (a.add (i * 1)) = some (mk u) ∧ ok u := by
      intro i him
      obtain ⟨cs', hc', ht'⟩ := hi i him
      obtain ⟨u, hu, hok⟩ := inv _ _ _ ht'
      obtain ⟨_, hcl, hat⟩ := World.cells?_some hc'
      refine ⟨u, ?_, hok⟩
      have := hat 0 (by decide)
      rw [hu] at this
      have hz : ∀ x : Addr, x.add 0 = x := fun x => if_pos rfl
      rw [hz] at this
      exact this
    have hex : ∃ f : Nat → α, ∀ i, i < m → w.cell? (a.add (i * 1)) = some (mk (f i)) ∧ ok (f i) :=
      ⟨fun i => if h : i < m then Classical.choose (hu i h) else default, fun i h => by
        simp only [dif_pos h]; exact Classical.choose_spec (hu i h)⟩
    obtain ⟨f, hf⟩ := hex
    refine ⟨(List.range len).map f, ⟨by simp, fun j u hj => ?_⟩, by omega⟩
    have hjl : j < len := by have := (List.getElem?_eq_some_iff.1 hj).1; simpa using this
    rw [List.getElem?_map, List.getElem?_range hjl] at hj
    cases hj
    have h0 := (hf 0 (by omega)).1
    rw [Nat.zero_mul] at h0
    have hz : ∀ x : Addr, x.add 0 = x := fun x => if_pos rfl
    rw [hz] at h0
    obtain ⟨b, off, rfl⟩ := addr_plain h0
    have hj2 := hf j (by omega)
    rw [Nat.mul_one, Addr.add_lit] at hj2
    exact ⟨b, off, rfl, hj2⟩
theorem open_strs {n : Nat} {p : Option Addr} {len cap : Nat} {x : DataW H × List MemPlace} (h : DataW.trod enc Try.prog w base (fun _ => true) held n 27 [.slice p len cap] = some x) : ∃ zs, InStrs w p len zs ∧ len ≤ maxLen :=
  open_row Value.string _ Try.underlying27 (by kernel_rfl) (fun n cs y h => by obtain ⟨s, h1, _, h2⟩ := DataW.trod_string Try.underlying9 h; exact ⟨s, h1, h2⟩) h
end
end Go.Proofs.Ytacohhmhggljhaa
