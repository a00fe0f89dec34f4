/- A struct of three cells and a number stored. -/
import Derived.Test.YtjopmchbphjliaaGreatDoorPaW5
namespace Go.Proofs.YtjopmchbphjliaaGreatDoor
open Go.RowKit Go.Shelf

/-- a struct of three cells and a number stored. -/
def st4 (W : World) (B : Nat) (a b c e : Value) : World :=
  (((W.setCell ⟨B, 0, none⟩ a).setCell ⟨B, 1, none⟩ b).setCell ⟨B, 2, none⟩ c).setCell ⟨B + 1, 0, none⟩ e
theorem st4_all {W : World} {B n : Nat} {a0 b0 c0 e0 : Value} (h : Blk W B 73 #[a0, b0, c0]) (g : Blk W (B + 1) 24 #[e0]) (hn : n ≤ B) (a b c e : Value) :
    Blk (st4 W B a b c e) B 73 #[a, b, c] ∧ Blk (st4 W B a b c e) (B + 1) 24 #[e] ∧ KeepsOthers W (st4 W B a b c e) ∧ Below n W (st4 W B a b c e) := by
  refine ⟨?_, ?_, ?_, ?_⟩
  · exact (((h.set 0 a).set 1 b).set 2 c).other _ _ _ (by omega)
  · exact (((g.other B 0 a (by omega)).other B 1 b (by omega)).other B 2 c (by omega)).set 0 e
  · exact ((((KeepsOthers.setCell _ _ _).trans (KeepsOthers.setCell _ _ _)).trans (KeepsOthers.setCell _ _ _)).trans (KeepsOthers.setCell _ _ _))
  · exact ((((Below.refl n W).setCell (p := ⟨B, 0, none⟩) hn _).setCell (p := ⟨B, 1, none⟩) hn _).setCell (p := ⟨B, 2, none⟩) hn _).setCell (p := ⟨B + 1, 0, none⟩) (by show n ≤ B + 1; omega) _
theorem st4_row {W : World} {B base : Nat} {a0 b0 c0 e0 : Value} (h : Blk W B 73 #[a0, b0, c0]) (g : Blk W (B + 1) 24 #[e0]) (a b c e : Value) {t : TypeId} {size k : Nat} {v : Value} {xs : List Value}
    (h1 : 73 ≠ t) (h2 : 24 ≠ t) (hr : W.ownsRow base t size v k xs) : (st4 W B a b c e).ownsRow base t size v k xs :=
  row_other (row_other (row_other (row_other hr h h1 0 a) (h.set 0 a) h1 1 b) ((h.set 0 a).set 1 b) h1 2 c) (((g.other B 0 a (by omega)).other B 1 b (by omega)).other B 2 c (by omega)) h2 0 e
end Go.Proofs.YtjopmchbphjliaaGreatDoor
