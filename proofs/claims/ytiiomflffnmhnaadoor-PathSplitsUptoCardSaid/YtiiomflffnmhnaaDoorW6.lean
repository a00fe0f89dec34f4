/- Blocks of several cells: a struct in a box. -/
import Derived.Test.YtiiomflffnmhnaaDoorW5
namespace Go.Proofs.YtiiomflffnmhnaaDoor
open Go.RowKit Go.Shelf

/-- block B holds these cells. -/
def Blk (W : World) (B : Nat) (t : TypeId) (cs : Array Value) : Prop := W.heap[B]? = some (.cells cs t (0, 0))
theorem Blk.lt {W : World} {B : Nat} {t : TypeId} {cs : Array Value} (h : Blk W B t cs) : B < W.heap.size := (Array.getElem?_eq_some_iff.1 h).1
theorem Blk.cell {W : World} {B : Nat} {t : TypeId} {cs : Array Value} (h : Blk W B t cs) (k : Nat) : W.cell? ⟨B, k, none⟩ = cs[k]? := by
  simp [World.cell?, show W.heap[B]? = _ from h]
theorem Blk.frozen {W : World} {B : Nat} {t : TypeId} {cs : Array Value} (h : Blk W B t cs) (k : Nat) : W.frozen? ⟨B, k, none⟩ = false := by
  simp [World.frozen?, show W.heap[B]? = _ from h]
theorem Blk.new (W : World) (t : TypeId) (cs : Array Value) : Blk (W.alloc (.cells cs t)) W.heap.size t cs := World.alloc_heap_new W _
theorem Blk.kept {W W' : World} {row : Option Nat} {B : Nat} {t : TypeId} {cs : Array Value} (h : Blk W B t cs) (hg : W.grownBy W' row) (hne : some B ≠ row) : Blk W' B t cs := (hg.block B h.lt hne).trans h
theorem Blk.below {W W' : World} {B n : Nat} {t : TypeId} {cs : Array Value} (h : Blk W B t cs) (hb : Below n W W') (hB : B < n) : Blk W' B t cs := (hb.block B hB).trans h
theorem Blk.alloc {W : World} {B : Nat} {t : TypeId} {cs : Array Value} (h : Blk W B t cs) (o : Obj) : Blk (W.alloc o) B t cs := h.kept (World.grownBy_alloc W o none) (by simp)
theorem Blk.set {W : World} {B : Nat} {t : TypeId} {cs : Array Value} (h : Blk W B t cs) (k : Nat) (v : Value) : Blk (W.setCell ⟨B, k, none⟩ v) B t (cs.setIfInBounds k v) := by
  obtain ⟨hlt, hk⟩ := Array.getElem?_eq_some_iff.1 h
  show (W.heap.modify B _)[B]? = _
  rw [Array.getElem?_eq_getElem (by rw [Array.size_modify]; exact hlt), Array.getElem_modify_self, hk]
  rfl
theorem grownBy_setAt (W : World) (b k : Nat) (v : Value) : W.grownBy (W.setCell ⟨b, k, none⟩ v) (some b) :=
  ⟨rfl, rfl, rfl, (KeepsWalks.setCell W _ v).size, fun j _ hj => Below.heap_setCell _ _ _ j (fun e => hj (by rw [e]))⟩
theorem Blk.other {W : World} {B : Nat} {t : TypeId} {cs : Array Value} (h : Blk W B t cs) (b k : Nat) (v : Value) (hne : B ≠ b) : Blk (W.setCell ⟨b, k, none⟩ v) B t cs :=
  h.kept (grownBy_setAt W b k v) (fun e => hne (Option.some.inj e))
theorem Blk.boxed {W : World} {B : Nat} {t : TypeId} {v : Value} (h : Blk W B t #[v]) : Boxed W B t v := h
theorem Boxed.blk {W : World} {B : Nat} {t : TypeId} {v : Value} (h : Boxed W B t v) : Blk W B t #[v] := h
theorem Blk.putObj {W : World} {B l : Nat} {t : TypeId} {cs : Array Value} {o : Obj} (h : Blk W B t cs) (o' : Obj) (hl : W.heap[l]? = some o) (ho : o.isCells = false) : Blk (W.putObj l o') B t cs :=
  h.kept (grownBy_putObj' W l o') (fun e => by
    obtain rfl := Option.some.inj e
    rw [show W.heap[B]? = _ from h] at hl; cases hl; cases ho)
theorem blk_own {β : Type} (B : Nat) (t : TypeId) (f : β → Array Value) : Own (fun s W => Blk W B t (f s)) := fun s X Y row h hg hrow =>
  h.kept hg (fun e => by
    obtain ⟨o, ho, hc⟩ := hrow B e.symm
    rw [show X.heap[B]? = _ from h] at ho; cases ho; cases hc)
theorem Own.and2 {β : Type} {I J : β → World → Prop} (h : Own I) (g : Own J) : Own (fun s W => I s W ∧ J s W) := fun s A B row hs hg hr => ⟨h s A B row hs.1 hg hr, g s A B row hs.2 hg hr⟩
theorem own_pure {β : Type} (p : β → Prop) : Own (fun (s : β) (_ : World) => p s) := fun _ _ _ _ hs _ _ => hs
theorem row_other {W : World} {base : Nat} {e : TypeId} {size : Nat} {v : Value} {n : Nat} {xs : List Value} {B : Nat} {t : TypeId} {cs : Array Value} (h : W.ownsRow base e size v n xs) (hB : Blk W B t cs) (hte : t ≠ e) (k : Nat) (u : Value) :
    (W.setCell ⟨B, k, none⟩ u).ownsRow base e size v n xs := by
  refine h.kept (grownBy_setAt W B k u) ?_
  rcases h.2 with ⟨rfl, _⟩ | ⟨g, cap, cur, rfl, _, hgb, _⟩
  · exact .inl rfl
  · refine .inr fun e' => ?_
    obtain rfl : g = B := by simpa [Value.ownBlock] using e'
    rw [show W.heap[g]? = _ from hB] at hgb
    simp at hgb
    exact hte hgb.2
/-- a struct of three cells and a number stored. -/
def st4 (W : World) (B : Nat) (a b c e : Value) : World :=
  (((W.setCell ⟨B, 0, none⟩ a).setCell ⟨B, 1, none⟩ b).setCell ⟨B, 2, none⟩ c).setCell ⟨B + 1, 0, none⟩ e
theorem st4_all {W : World} {B n : Nat} {a0 b0 c0 e0 : Value} (h : Blk W B 29 #[a0, b0, c0]) (g : Blk W (B + 1) 26 #[e0]) (hn : n ≤ B) (a b c e : Value) :
    Blk (st4 W B a b c e) B 29 #[a, b, c] ∧ Blk (st4 W B a b c e) (B + 1) 26 #[e] ∧ KeepsOthers W (st4 W B a b c e) ∧ Below n W (st4 W B a b c e) := by
  refine ⟨?_, ?_, ?_, ?_⟩
  · exact (((h.set 0 a).set 1 b).set 2 c).other _ _ _ (by omega)
  · exact (((g.other B 0 a (by omega)).other B 1 b (by omega)).other B 2 c (by omega)).set 0 e
  · exact ((((KeepsOthers.setCell _ _ _).trans (KeepsOthers.setCell _ _ _)).trans (KeepsOthers.setCell _ _ _)).trans (KeepsOthers.setCell _ _ _))
  · exact ((((Below.refl n W).setCell (p := ⟨B, 0, none⟩) hn _).setCell (p := ⟨B, 1, none⟩) hn _).setCell (p := ⟨B, 2, none⟩) hn _).setCell (p := ⟨B + 1, 0, none⟩) (by show n ≤ B + 1; omega) _
theorem st4_row {W : World} {B base : Nat} {a0 b0 c0 e0 : Value} (h : Blk W B 29 #[a0, b0, c0]) (g : Blk W (B + 1) 26 #[e0]) (a b c e : Value) {t : TypeId} {size k : Nat} {v : Value} {xs : List Value}
    (h1 : 29 ≠ t) (h2 : 26 ≠ t) (hr : W.ownsRow base t size v k xs) : (st4 W B a b c e).ownsRow base t size v k xs :=
  row_other (row_other (row_other (row_other hr h h1 0 a) (h.set 0 a) h1 1 b) ((h.set 0 a).set 1 b) h1 2 c) (((g.other B 0 a (by omega)).other B 1 b (by omega)).other B 2 c (by omega)) h2 0 e
end Go.Proofs.YtiiomflffnmhnaaDoor
