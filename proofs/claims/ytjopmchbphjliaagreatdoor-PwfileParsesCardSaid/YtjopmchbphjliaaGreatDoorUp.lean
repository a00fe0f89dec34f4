/- Regions that draw their order, whose operations read and whose callees may lay blocks of their own: one walk of the text's order; the class: all worlds in which what lay stands. -/
import Derived.Test.YtjopmchbphjliaaGreatDoorB0
namespace Go.Proofs.YtjopmchbphjliaaGreatDoor
open Go.RowKit Go.Shelf

/-- a world in which all that lay in w0 stands. -/
structure UpW (w0 : World) where
  w : World
  le : Below w0.heap.size w0 w
instance (w0 : World) : Inhabited (UpW w0) := ⟨⟨w0, Below.refl _ _⟩⟩
theorem wp_region_up {P : Program} {id : Nat} {Q : Exit → Act → World → Prop} {a : Act} {w : World} {l : List Oper} (hm : P.follows .mixedOrders = true) (hB : Region.lexB .any l.toArray = true)
    (h : wpQuiet P l.toArray (fun w' => ∃ p : UpW w, w' = p.w) (fun a' => ∀ w', (∃ p : UpW w, w' = p.w) → Q .normal a' w') l a) : (Code.region id l.toArray true).wp P Q a w :=
  wp_region_quiet (C := fun w' => ∃ p : UpW w, w' = p.w) hm hB ⟨⟨w.drew, (Below.refl _ w).drew⟩, rfl⟩ (by simpa using h)
theorem Calls.up_of {P : Program} {f : FuncId} {args : Array Value} {w0 : World} {p : UpW w0} {v : Value}
    (h : Calls P f args p.w fun e w' => e = .returned v ∧ Below p.w.heap.size p.w w') : Calls P f args p.w fun e w'' => e = .returned v ∧ ∃ q : UpW w0, w'' = q.w :=
  h.mono fun _ w' ⟨he, hb⟩ => ⟨he, ⟨w', p.le.trans (hb.mono p.le.size)⟩, rfl⟩
theorem Calls.up_of_eq {P : Program} {f : FuncId} {args : Array Value} {w0 : World} {p : UpW w0} {v : Value}
    (h : Calls P f args p.w fun e w' => e = .returned v ∧ p.w = w') : Calls P f args p.w fun e w'' => e = .returned v ∧ ∃ q : UpW w0, w'' = q.w :=
  h.mono fun _ _ ⟨he, hb⟩ => ⟨he, p, hb.symm⟩
theorem up_cell {w0 : World} {b o : Nat} {v : Value} (h : w0.cell? ⟨b, o, none⟩ = some v) (p : UpW w0) : p.w.cell? ⟨b, o, none⟩ = some v :=
  (p.le.cell (p := ⟨b, o, none⟩) (cell_lt h)).trans h
end Go.Proofs.YtjopmchbphjliaaGreatDoor
