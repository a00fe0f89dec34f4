/- Contract of package walk's locate. -/
import Derived.Test.YtflncolmehmaaaaWD
import Derived.Test.YtflncolmehmaaaaWE0
import Derived.StillTail
import Derived.StillTactics
import Derived.StillTailTactics
namespace Go.Proofs.Ytflncolmehmaaaa
open Go.RowKit Ino Go.Maps
open Pa (Blk strV split_any splE nam dirP absP splN splAbs splDir)
set_option linter.unusedVariables false
set_option linter.unusedSimpArgs false
theorem setEntry {W : World} {G : Nat} {T : TypeId} {a0 a1 a2 a3 a4 a5 a6 a7 a8 a9 a10 a11 a12 a13 a14 a15 a16 a17 a18 : Value} (h : Blk W G T #[a0, a1, a2, a3, a4, a5, a6, a7, a8, a9, a10, a11, a12, a13, a14, a15, a16, a17, a18]) (b0 b1 b2 b3 b4 b5 b6 b7 b8 : Value) :
    Blk (((((((((W.setCell ⟨G, 11, none⟩ b0).setCell ⟨G, 12, none⟩ b1).setCell ⟨G, 13, none⟩ b2).setCell ⟨G, 14, none⟩ b3).setCell ⟨G, 15, none⟩ b4).setCell ⟨G, 16, none⟩ b5).setCell ⟨G, 17, none⟩ b6).setCell ⟨G, 18, none⟩ b7).setCell ⟨G, 10, none⟩ b8) G T #[a0, a1, a2, a3, a4, a5, a6, a7, a8, a9, b8, b0, b1, b2, b3, b4, b5, b6, b7] := by
  have h1 : Blk (W.setCell ⟨G, 11, none⟩ b0) G T #[a0, a1, a2, a3, a4, a5, a6, a7, a8, a9, a10, b0, a12, a13, a14, a15, a16, a17, a18] := h.set 11 b0
  have h2 : Blk ((W.setCell ⟨G, 11, none⟩ b0).setCell ⟨G, 12, none⟩ b1) G T #[a0, a1, a2, a3, a4, a5, a6, a7, a8, a9, a10, b0, b1, a13, a14, a15, a16, a17, a18] := h1.set 12 b1
  have h3 : Blk (((W.setCell ⟨G, 11, none⟩ b0).setCell ⟨G, 12, none⟩ b1).setCell ⟨G, 13, none⟩ b2) G T #[a0, a1, a2, a3, a4, a5, a6, a7, a8, a9, a10, b0, b1, b2, a14, a15, a16, a17, a18] := h2.set 13 b2
  have h4 : Blk ((((W.setCell ⟨G, 11, none⟩ b0).setCell ⟨G, 12, none⟩ b1).setCell ⟨G, 13, none⟩ b2).setCell ⟨G, 14, none⟩ b3) G T #[a0, a1, a2, a3, a4, a5, a6, a7, a8, a9, a10, b0, b1, b2, b3, a15, a16, a17, a18] := h3.set 14 b3
  have h5 : Blk (((((W.setCell ⟨G, 11, none⟩ b0).setCell ⟨G, 12, none⟩ b1).setCell ⟨G, 13, none⟩ b2).setCell ⟨G, 14, none⟩ b3).setCell ⟨G, 15, none⟩ b4) G T #[a0, a1, a2, a3, a4, a5, a6, a7, a8, a9, a10, b0, b1, b2, b3, b4, a16, a17, a18] := h4.set 15 b4
  have h6 : Blk ((((((W.setCell ⟨G, 11, none⟩ b0).setCell ⟨G, 12, none⟩ b1).setCell ⟨G, 13, none⟩ b2).setCell ⟨G, 14, none⟩ b3).setCell ⟨G, 15, none⟩ b4).setCell ⟨G, 16, none⟩ b5) G T #[a0, a1, a2, a3, a4, a5, a6, a7, a8, a9, a10, b0, b1, b2, b3, b4, b5, a17, a18] := h5.set 16 b5
  have h7 : Blk (((((((W.setCell ⟨G, 11, none⟩ b0).setCell ⟨G, 12, none⟩ b1).setCell ⟨G, 13, none⟩ b2).setCell ⟨G, 14, none⟩ b3).setCell ⟨G, 15, none⟩ b4).setCell ⟨G, 16, none⟩ b5).setCell ⟨G, 17, none⟩ b6) G T #[a0, a1, a2, a3, a4, a5, a6, a7, a8, a9, a10, b0, b1, b2, b3, b4, b5, b6, a18] := h6.set 17 b6
  have h8 : Blk ((((((((W.setCell ⟨G, 11, none⟩ b0).setCell ⟨G, 12, none⟩ b1).setCell ⟨G, 13, none⟩ b2).setCell ⟨G, 14, none⟩ b3).setCell ⟨G, 15, none⟩ b4).setCell ⟨G, 16, none⟩ b5).setCell ⟨G, 17, none⟩ b6).setCell ⟨G, 18, none⟩ b7) G T #[a0, a1, a2, a3, a4, a5, a6, a7, a8, a9, a10, b0, b1, b2, b3, b4, b5, b6, b7] := h7.set 18 b7
  have h9 : Blk (((((((((W.setCell ⟨G, 11, none⟩ b0).setCell ⟨G, 12, none⟩ b1).setCell ⟨G, 13, none⟩ b2).setCell ⟨G, 14, none⟩ b3).setCell ⟨G, 15, none⟩ b4).setCell ⟨G, 16, none⟩ b5).setCell ⟨G, 17, none⟩ b6).setCell ⟨G, 18, none⟩ b7).setCell ⟨G, 10, none⟩ b8) G T #[a0, a1, a2, a3, a4, a5, a6, a7, a8, a9, b8, b0, b1, b2, b3, b4, b5, b6, b7] := h8.set 10 b8
  exact h9
theorem farEntry {W : World} {G G' : Nat} {T : TypeId} {cs : Array Value} (h : Blk W G' T cs) (hne : G' ≠ G) (b0 b1 b2 b3 b4 b5 b6 b7 b8 : Value) :
    Blk (((((((((W.setCell ⟨G, 11, none⟩ b0).setCell ⟨G, 12, none⟩ b1).setCell ⟨G, 13, none⟩ b2).setCell ⟨G, 14, none⟩ b3).setCell ⟨G, 15, none⟩ b4).setCell ⟨G, 16, none⟩ b5).setCell ⟨G, 17, none⟩ b6).setCell ⟨G, 18, none⟩ b7).setCell ⟨G, 10, none⟩ b8) G' T cs :=
  (((((((((h.other G 11 b0 hne).other G 12 b1 hne).other G 13 b2 hne).other G 14 b3 hne).other G 15 b4 hne).other G 16 b5 hne).other G 17 b6 hne).other G 18 b7 hne).other G 10 b8 hne)
theorem belEntry {n : Nat} {w0 W : World} {G : Nat} (h : Below n w0 W) (hG : n ≤ G) (b0 b1 b2 b3 b4 b5 b6 b7 b8 : Value) :
    Below n w0 (((((((((W.setCell ⟨G, 11, none⟩ b0).setCell ⟨G, 12, none⟩ b1).setCell ⟨G, 13, none⟩ b2).setCell ⟨G, 14, none⟩ b3).setCell ⟨G, 15, none⟩ b4).setCell ⟨G, 16, none⟩ b5).setCell ⟨G, 17, none⟩ b6).setCell ⟨G, 18, none⟩ b7).setCell ⟨G, 10, none⟩ b8) :=
  (((((((((h.setCell (p := ⟨G, 11, none⟩) hG b0).setCell (p := ⟨G, 12, none⟩) hG b1).setCell (p := ⟨G, 13, none⟩) hG b2).setCell (p := ⟨G, 14, none⟩) hG b3).setCell (p := ⟨G, 15, none⟩) hG b4).setCell (p := ⟨G, 16, none⟩) hG b5).setCell (p := ⟨G, 17, none⟩) hG b6).setCell (p := ⟨G, 18, none⟩) hG b7).setCell (p := ⟨G, 10, none⟩) hG b8)
/-- a place, told. -/
structure Pla where
  dir : Inf
  name : Bs
  must : Bool
  taken : Bool
  entry : Inf
  err : Nat
def noPla (e : Nat) : Pla := ⟨noInf, [], false, false, noInf, e⟩
def plaP (t : T) (p : Plc) : Pla := if p.err = 0 then ⟨infT t p.dir, p.name, p.must, (lookI t (p.dir : Int) p.name).2, (lookI t (p.dir : Int) p.name).1, 0⟩ else noPla p.err
def plaV (p : Pla) : Value := .tuple #[.agg (plcC p.dir p.name p.must p.taken p.entry), .int .i64 p.err]
theorem told_place {t : T} (h : Sd t) (cwd u g : Int) (l : Bs) : plaP t (placeP t cwd u g l) =
    if splE l = 0 then (if splN l = [] ∨ lastN (splN l) = [46, 46] then noPla 1
      else if (resP t cwd u g (splAbs l) (splN l).dropLast).2 = 0 then
        (if lookX (resP t cwd u g (splAbs l) (splN l).dropLast).1 u g = 0 then ⟨(resP t cwd u g (splAbs l) (splN l).dropLast).1, lastN (splN l), splDir l, (lookI t (resP t cwd u g (splAbs l) (splN l).dropLast).1.ino (lastN (splN l))).2, (lookI t (resP t cwd u g (splAbs l) (splN l).dropLast).1.ino (lastN (splN l))).1, 0⟩
        else noPla (lookX (resP t cwd u g (splAbs l) (splN l).dropLast).1 u g))
      else noPla (resP t cwd u g (splAbs l) (splN l).dropLast).2)
    else noPla (splE l) := by
  unfold placeP
  by_cases h1 : splE l = 0
  · rw [if_pos h1, if_pos h1]
    have e1 : splAbs l = absP l := if_pos h1
    have e2 : splN l = nam l := if_pos h1
    have e3 : splDir l = dirP l := if_pos h1
    rw [e1, e2, e3, resP_eq h]
    by_cases h2 : nam l = [] ∨ lastN (nam l) = [46, 46]
    · rw [if_pos h2, if_pos h2]; rfl
    rw [if_neg h2, if_neg h2]
    generalize downP t cwd u g (absP l) (nam l).dropLast = d
    obtain ⟨x, er⟩ := d
    by_cases h3 : er = 0
    · subst h3
      have ht : toldI t (x, 0) = (infT t x, 0) := rfl
      rw [ht, if_pos rfl, if_pos rfl]
      show plaP t (if lookE t x u g = 0 then _ else _) = if lookX (infT t x) u g = 0 then _ else noPla (lookX (infT t x) u g)
      rw [lookX_inf]
      by_cases h4 : lookE t x u g = 0
      · rw [if_pos h4, if_pos h4]; rfl
      · rw [if_neg h4, if_neg h4]
        unfold plaP
        rw [if_neg h4]
    · have ht : toldI t (x, er) = (noInf, er) := if_neg h3
      rw [ht, if_neg h3, if_neg h3]
      unfold plaP
      rw [if_neg h3]
  · rw [if_neg h1, if_neg h1]
    unfold plaP
    rw [if_neg h1]
theorem InNames.begins {W : World} {p : Option Addr} {cap cap' : Nat} {l : List Bs} (h : InNames W (.slice p l.length cap) l) : InNames W (.slice p (l.length - 1) cap') l.dropLast := by
  obtain ⟨p', c', h1, h2, h3⟩ := h
  cases h1
  refine ⟨p, cap', by rw [List.length_dropLast], by rw [List.length_dropLast]; omega, fun j n hj => h3 j n ?_⟩
  have hlt := (List.getElem?_eq_some_iff.1 hj).1
  rw [List.getElem?_dropLast] at hj
  rw [if_pos (by rw [List.length_dropLast] at hlt; exact hlt)] at hj
  exact hj
theorem last_get {l : List Bs} (h : l ≠ []) : l[l.length - 1]? = some (lastN l) := by
  unfold lastN
  rw [List.getLastD_eq_getLast?, ← List.getLast?_eq_getElem?]
  rw [List.getLast?_eq_some_getLast h]; rfl
end Go.Proofs.Ytflncolmehmaaaa
