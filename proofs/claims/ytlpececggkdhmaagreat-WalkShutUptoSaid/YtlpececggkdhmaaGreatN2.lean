import Derived.StillTail
import Derived.StillTactics
import Derived.StillTailTactics
import Derived.Test.YtlpececggkdhmaaGreatM6
import Derived.Deep.RegionHeld3
import Derived.BigRegion
import Derived.Lib.Hide
import Derived.Test.YtlpececggkdhmaaGreatM29
import Derived.Test.YtlpececggkdhmaaGreatN1
open Go.Lib (hid)
open List renaming setIfInBounds_toArray → jA, set_cons_zero → jB, set_cons_succ → jC, getElem?_toArray → jD, getElem?_cons_succ → jE, getElem?_cons_zero → jF
set_option linter.unusedVariables false
set_option linter.unusedSimpArgs false
set_option maxHeartbeats 8000000
set_option maxRecDepth 100000
namespace Go.Proofs.YtlpececggkdhmaaGreat
section
open Go.RowKit Ino Go.Maps
open Pa (Blk strV)
variable {W W' : World} {G : Nat} {T : TypeId}
theorem Pa.Blk.c19 {a0 a1 a2 a3 a4 a5 a6 a7 a8 a9 a10 a11 a12 a13 a14 a15 a16 a17 a18 : Value} (h : Blk W G T #[a0, a1, a2, a3, a4, a5, a6, a7, a8, a9, a10, a11, a12, a13, a14, a15, a16, a17, a18]) : W.cell? ⟨G, 0, none⟩ = some a0 ∧ W.cell? ⟨G, 1, none⟩ = some a1 ∧ W.cell? ⟨G, 2, none⟩ = some a2 ∧ W.cell? ⟨G, 3, none⟩ = some a3 ∧ W.cell? ⟨G, 4, none⟩ = some a4 ∧ W.cell? ⟨G, 5, none⟩ = some a5 ∧ W.cell? ⟨G, 6, none⟩ = some a6 ∧ W.cell? ⟨G, 7, none⟩ = some a7 ∧ W.cell? ⟨G, 8, none⟩ = some a8 ∧ W.cell? ⟨G, 9, none⟩ = some a9 ∧ W.cell? ⟨G, 10, none⟩ = some a10 ∧ W.cell? ⟨G, 11, none⟩ = some a11 ∧ W.cell? ⟨G, 12, none⟩ = some a12 ∧ W.cell? ⟨G, 13, none⟩ = some a13 ∧ W.cell? ⟨G, 14, none⟩ = some a14 ∧ W.cell? ⟨G, 15, none⟩ = some a15 ∧ W.cell? ⟨G, 16, none⟩ = some a16 ∧ W.cell? ⟨G, 17, none⟩ = some a17 ∧ W.cell? ⟨G, 18, none⟩ = some a18 :=
 ⟨h.cell 0, h.cell 1, h.cell 2, h.cell 3, h.cell 4, h.cell 5, h.cell 6, h.cell 7, h.cell 8, h.cell 9, h.cell 10, h.cell 11, h.cell 12, h.cell 13, h.cell 14, h.cell 15, h.cell 16, h.cell 17, h.cell 18⟩
theorem Pa.Blk.f19 {cs : Array Value} (h : Blk W G T cs) : W.frozen? ⟨G, 0, none⟩ = false ∧ W.frozen? ⟨G, 1, none⟩ = false ∧ W.frozen? ⟨G, 2, none⟩ = false ∧ W.frozen? ⟨G, 3, none⟩ = false ∧ W.frozen? ⟨G, 4, none⟩ = false ∧ W.frozen? ⟨G, 5, none⟩ = false ∧ W.frozen? ⟨G, 6, none⟩ = false ∧ W.frozen? ⟨G, 7, none⟩ = false ∧ W.frozen? ⟨G, 8, none⟩ = false ∧ W.frozen? ⟨G, 9, none⟩ = false ∧ W.frozen? ⟨G, 10, none⟩ = false ∧ W.frozen? ⟨G, 11, none⟩ = false ∧ W.frozen? ⟨G, 12, none⟩ = false ∧ W.frozen? ⟨G, 13, none⟩ = false ∧ W.frozen? ⟨G, 14, none⟩ = false ∧ W.frozen? ⟨G, 15, none⟩ = false ∧ W.frozen? ⟨G, 16, none⟩ = false ∧ W.frozen? ⟨G, 17, none⟩ = false ∧ W.frozen? ⟨G, 18, none⟩ = false :=
 ⟨h.frozen 0, h.frozen 1, h.frozen 2, h.frozen 3, h.frozen 4, h.frozen 5, h.frozen 6, h.frozen 7, h.frozen 8, h.frozen 9, h.frozen 10, h.frozen 11, h.frozen 12, h.frozen 13, h.frozen 14, h.frozen 15, h.frozen 16, h.frozen 17, h.frozen 18⟩
def plcC (a : Inf) (n : Bs) (must taken : Bool) (b : Inf) : Array Value := #[.int .i64 a.ino, .int .i64 a.kind, .int .i64 a.mode, .int .i64 a.owner, .int .i64 a.group, .int .i64 a.links, .int .i64 a.size, .int .i64 a.tty, strV n, .bool must, .bool taken, .int .i64 b.ino, .int .i64 b.kind, .int .i64 b.mode, .int .i64 b.owner, .int .i64 b.group, .int .i64 b.links, .int .i64 b.size, .int .i64 b.tty]
end
section
open Go.RowKit Ino Go.Maps
open Pa (Blk strV split_any splE nam dirP absP splN splAbs splDir)
structure Pla where
 dir : Inf
 name : Bs
 must : Bool
 taken : Bool
 entry : Inf
 err : Nat
def noPla (e : Nat) : Pla := ⟨noInf, [], false, false, noInf, e⟩
def plaP (t : T) (p : Plc) : Pla := if p.err = 0 then ⟨infT t p.dir, p.name, p.must, (lookI t (p.dir : Int) p.name).2, (lookI t (p.dir : Int) p.name).1, 0⟩ else noPla p.err
def plaV (p : Pla) : Value := .tuple #[.agg (plcC p.dir p.name p.must p.taken p.entry), .int .i64 p.err]
theorem told_place {t : T} (h : Sd t) (cwd u g : Int) (l : Bs) : plaP t (placeP t cwd u g l) =
 if splE l = 0 then (if splN l = [] ∨ lastN (splN l) = [46, 46] then noPla 1
  else if (resP t cwd u g (splAbs l) (splN l).dropLast).2 = 0 then
   (if lookX (resP t cwd u g (splAbs l) (splN l).dropLast).1 u g = 0 then ⟨(resP t cwd u g (splAbs l) (splN l).dropLast).1, lastN (splN l), splDir l, (lookI t (resP t cwd u g (splAbs l) (splN l).dropLast).1.ino (lastN (splN l))).2, (lookI t (resP t cwd u g (splAbs l) (splN l).dropLast).1.ino (lastN (splN l))).1, 0⟩
   else noPla (lookX (resP t cwd u g (splAbs l) (splN l).dropLast).1 u g))
  else noPla (resP t cwd u g (splAbs l) (splN l).dropLast).2)
 else noPla (splE l) := by
 unfold placeP
 by_cases h1 : splE l = 0
 ·rw [if_pos h1, if_pos h1]
  have e1 : splAbs l = absP l := if_pos h1
  have e2 : splN l = nam l := if_pos h1
  have e3 : splDir l = dirP l := if_pos h1
  rw [e1, e2, e3, resP_eq h]
  by_cases h2 : nam l = [] ∨ lastN (nam l) = [46, 46]
  ·rw [if_pos h2, if_pos h2]; rfl
  rw [if_neg h2, if_neg h2]
  generalize downP t cwd u g (absP l) (nam l).dropLast = d
  obtain ⟨x, er⟩ := d
  by_cases h3 : er = 0
  ·subst h3
   have ht : toldI t (x, 0) = (infT t x, 0) := rfl
   rw [ht, if_pos rfl, if_pos rfl]
   show plaP t (if lookE t x u g = 0 then _ else _) = if lookX (infT t x) u g = 0 then _ else noPla (lookX (infT t x) u g)
   rw [lookX_inf]
   by_cases h4 : lookE t x u g = 0
   ·rw [if_pos h4, if_pos h4]; rfl
   ·rw [if_neg h4, if_neg h4]
    unfold plaP
    rw [if_neg h4]
  ·have ht : toldI t (x, er) = (noInf, er) := if_neg h3
   rw [ht, if_neg h3, if_neg h3]
   unfold plaP
   rw [if_neg h3]
 ·rw [if_neg h1, if_neg h1]
  unfold plaP
  rw [if_neg h1]
theorem InNames.begins {W : World} {p : Option Addr} {cap cap' : Nat} {l : List Bs} (h : InNames W (.slice p l.length cap) l) : InNames W (.slice p (l.length - 1) cap') l.dropLast := by
 obtain ⟨p', c', h1, h2, h3⟩ := h
 cases h1
 refine ⟨p, cap', by rw [List.length_dropLast], by rw [List.length_dropLast]; omega, fun j n hj => h3 j n ?_⟩
 have hlt := (List.getElem?_eq_some_iff.1 hj).1
 rw [List.getElem?_dropLast] at hj
 rw [if_pos (by rw [List.length_dropLast] at hlt; exact hlt)] at hj
 exact hj
theorem last_get {l : List Bs} (h : l ≠ []) : l[l.length - 1]? = some (lastN l) := by
 unfold lastN
 rw [List.getLastD_eq_getLast?, ← List.getLast?_eq_getElem?]
 rw [List.getLast?_eq_some_getLast h]; rfl
end
section
open Go.RowKit Ino Go.Maps
open Pa (Blk strV split_any splE nam dirP absP splN splAbs splDir)
theorem plc_over (a : Inf) (n : Bs) (m k : Bool) (b : Inf) : overArr (plcC a n m k noInf) 11 (infC b).toList = plcC a n m k b := by
 obtain ⟨b0, b1, b2, b3, b4, b5, b6, b7⟩ := b
 simp only [plcC, infC, overArr, jA, jB, jC]
theorem plc_taken (a : Inf) (n : Bs) (m k c : Bool) (b : Inf) : (plcC a n m k b).setIfInBounds 10 (.bool c) = plcC a n m c b := by
 simp only [plcC, jA, jB, jC]
theorem plc_set {W : World} {G : Nat} {T : TypeId} {a : Inf} {n : Bs} {m k c : Bool} {b : Inf} (h : Blk W G T (plcC a n m k b)) : Blk (W.setCell ⟨G, 10, none⟩ (.bool c)) G T (plcC a n m c b) := plc_taken a n m k c b ▸ h.set 10 (.bool c)
theorem strsU : Tryz.prog.underlying 54 = some (.slice (Tryz.prog.elem 54)) := by kernel_rfl
theorem strsE (w : World) : (sizeOf (Tryz.prog.elem 54)).run Tryz.prog w = .ok 1 w := by kernel_rfl
theorem cut_to (g0 o0 : Nat) {m pc : Nat} (h : m + 1 ≤ pc) (w : World) : (Instr.sliceAt 54 (.slice (some ⟨g0, o0, none⟩) (m + 1) pc) none (some (.int .i64 (m : Int))) none).run Tryz.prog w = .ok (.slice (some ⟨g0, o0, none⟩) m pc) w := by
 rw [run_sliceAt_slice w 54 _ _ _ _ strsU, run_slice_h w 54 _ (m + 1) pc strsU .i64 (m : Int) (by omega) (by omega), strsE]
 simp only [Result.andThen_ok, Int.toNat_natCast]
 unfold sliced
 rw [if_neg (by omega), Nat.sub_zero, Nat.sub_zero]
 rfl
section
variable {W W' : World} {Gc Gp : Nat} {x0 x1 x2 x3 y0 y1 y2 : Value}
theorem cal6 {T T' : TypeId} (k : Blk W Gc T #[x0, x1, x2, x3]) (k' : Blk W Gp T' #[y0, y1, y2]) : W.cell? ⟨Gc, 0, none⟩ = some x0 ∧ W.cell? ⟨Gc, 1, none⟩ = some x1 ∧ W.cell? ⟨Gc, 2, none⟩ = some x2 ∧ W.cell? ⟨Gc, 3, none⟩ = some x3 ∧ W.cell? ⟨Gp, 0, none⟩ = some y0 ∧ W.cell? ⟨Gp, 1, none⟩ = some y1 :=
 ⟨k.cell 0, k.cell 1, k.cell 2, k.cell 3, k'.cell 0, k'.cell 1⟩
theorem up1 {g o : Nat} {v : Value} (h : W.cell? ⟨g, o, none⟩ = some v) (b : Below W.heap.size W W') : W'.cell? ⟨g, o, none⟩ = some v := (b.cell (p := ⟨g, o, none⟩) (cell_lt h)).trans h
theorem up6 (h : W.cell? ⟨Gc, 0, none⟩ = some x0 ∧ W.cell? ⟨Gc, 1, none⟩ = some x1 ∧ W.cell? ⟨Gc, 2, none⟩ = some x2 ∧ W.cell? ⟨Gc, 3, none⟩ = some x3 ∧ W.cell? ⟨Gp, 0, none⟩ = some y0 ∧ W.cell? ⟨Gp, 1, none⟩ = some y1) (b : Below W.heap.size W W') :
 W'.cell? ⟨Gc, 0, none⟩ = some x0 ∧ W'.cell? ⟨Gc, 1, none⟩ = some x1 ∧ W'.cell? ⟨Gc, 2, none⟩ = some x2 ∧ W'.cell? ⟨Gc, 3, none⟩ = some x3 ∧ W'.cell? ⟨Gp, 0, none⟩ = some y0 ∧ W'.cell? ⟨Gp, 1, none⟩ = some y1 :=
 ⟨up1 h.1 b, up1 h.2.1 b, up1 h.2.2.1 b, up1 h.2.2.2.1 b, up1 h.2.2.2.2.1 b, up1 h.2.2.2.2.2 b⟩
theorem far1 {G g o : Nat} {v : Value} (h : W.cell? ⟨g, o, none⟩ = some v) (hne : g ≠ G) (b0 b1 b2 b3 b4 b5 b6 b7 : Value) : ((((((((W.setCell ⟨G, 0, none⟩ b0).setCell ⟨G, 1, none⟩ b1).setCell ⟨G, 2, none⟩ b2).setCell ⟨G, 3, none⟩ b3).setCell ⟨G, 4, none⟩ b4).setCell ⟨G, 5, none⟩ b5).setCell ⟨G, 6, none⟩ b6).setCell ⟨G, 7, none⟩ b7).cell? ⟨g, o, none⟩ = some v := by
 have hn : ∀ i, (⟨G, i, none⟩ : Addr) ≠ ⟨g, o, none⟩ := fun i e => hne (by injection e with e1; exact e1.symm)
 rw [World.cell?_setCell_other _ _ _ _ (hn 7), World.cell?_setCell_other _ _ _ _ (hn 6), World.cell?_setCell_other _ _ _ _ (hn 5), World.cell?_setCell_other _ _ _ _ (hn 4), World.cell?_setCell_other _ _ _ _ (hn 3), World.cell?_setCell_other _ _ _ _ (hn 2), World.cell?_setCell_other _ _ _ _ (hn 1), World.cell?_setCell_other _ _ _ _ (hn 0), h]
theorem up6c {G : Nat} (h : W.cell? ⟨Gc, 0, none⟩ = some x0 ∧ W.cell? ⟨Gc, 1, none⟩ = some x1 ∧ W.cell? ⟨Gc, 2, none⟩ = some x2 ∧ W.cell? ⟨Gc, 3, none⟩ = some x3 ∧ W.cell? ⟨Gp, 0, none⟩ = some y0 ∧ W.cell? ⟨Gp, 1, none⟩ = some y1) (h1 : Gc ≠ G) (h2 : Gp ≠ G) (b0 b1 b2 b3 b4 b5 b6 b7 : Value) :
 ((((((((W.setCell ⟨G, 0, none⟩ b0).setCell ⟨G, 1, none⟩ b1).setCell ⟨G, 2, none⟩ b2).setCell ⟨G, 3, none⟩ b3).setCell ⟨G, 4, none⟩ b4).setCell ⟨G, 5, none⟩ b5).setCell ⟨G, 6, none⟩ b6).setCell ⟨G, 7, none⟩ b7).cell? ⟨Gc, 0, none⟩ = some x0 ∧ ((((((((W.setCell ⟨G, 0, none⟩ b0).setCell ⟨G, 1, none⟩ b1).setCell ⟨G, 2, none⟩ b2).setCell ⟨G, 3, none⟩ b3).setCell ⟨G, 4, none⟩ b4).setCell ⟨G, 5, none⟩ b5).setCell ⟨G, 6, none⟩ b6).setCell ⟨G, 7, none⟩ b7).cell? ⟨Gc, 1, none⟩ = some x1 ∧ ((((((((W.setCell ⟨G, 0, none⟩ b0).setCell ⟨G, 1, none⟩ b1).setCell ⟨G, 2, none⟩ b2).setCell ⟨G, 3, none⟩ b3).setCell ⟨G, 4, none⟩ b4).setCell ⟨G, 5, none⟩ b5).setCell ⟨G, 6, none⟩ b6).setCell ⟨G, 7, none⟩ b7).cell? ⟨Gc, 2, none⟩ = some x2 ∧ ((((((((W.setCell ⟨G, 0, none⟩ b0).setCell ⟨G, 1, none⟩ b1).setCell ⟨G, 2, none⟩ b2).setCell ⟨G, 3, none⟩ b3).setCell ⟨G, 4, none⟩ b4).setCell ⟨G, 5, none⟩ b5).setCell ⟨G, 6, none⟩ b6).setCell ⟨G, 7, none⟩ b7).cell? ⟨Gc, 3, none⟩ = some x3 ∧ ((((((((W.setCell ⟨G, 0, none⟩ b0).setCell ⟨G, 1, none⟩ b1).setCell ⟨G, 2, none⟩ b2).setCell ⟨G, 3, none⟩ b3).setCell ⟨G, 4, none⟩ b4).setCell ⟨G, 5, none⟩ b5).setCell ⟨G, 6, none⟩ b6).setCell ⟨G, 7, none⟩ b7).cell? ⟨Gp, 0, none⟩ = some y0 ∧ ((((((((W.setCell ⟨G, 0, none⟩ b0).setCell ⟨G, 1, none⟩ b1).setCell ⟨G, 2, none⟩ b2).setCell ⟨G, 3, none⟩ b3).setCell ⟨G, 4, none⟩ b4).setCell ⟨G, 5, none⟩ b5).setCell ⟨G, 6, none⟩ b6).setCell ⟨G, 7, none⟩ b7).cell? ⟨Gp, 1, none⟩ = some y1 :=
 ⟨far1 h.1 h1 _ _ _ _ _ _ _ _, far1 h.2.1 h1 _ _ _ _ _ _ _ _, far1 h.2.2.1 h1 _ _ _ _ _ _ _ _, far1 h.2.2.2.1 h1 _ _ _ _ _ _ _ _, far1 h.2.2.2.2.1 h2 _ _ _ _ _ _ _ _, far1 h.2.2.2.2.2 h2 _ _ _ _ _ _ _ _⟩
end
theorem blkNewUp {W W5 : World} {T : TypeId} {cs : Array Value} (b : Below (W.alloc (.cells cs T)).drew.heap.size (W.alloc (.cells cs T)).drew W5) : Blk W5 W.heap.size T cs :=
 (show Blk (W.alloc (.cells cs T)).drew W.heap.size T cs from Blk.new W T cs).up b
theorem then_world {K : Act → World → Prop} {Q : Exit → Act → World → Prop} {e : Exit} {a : Act} {W : World} (J : World → Prop) (hJ : J W) (h : ∀ W', J W' → Exit.then K Q e a W') : Exit.then K Q e a W := h W hJ
theorem below_one {w W W' : World} {G : Nat} (b : Below w.heap.size w W) (hG : w.heap.size ≤ G) (f : Fr (· = G) W W') : Below w.heap.size w W' :=
 b.trans ⟨f.os, f.tape, f.output, f.size, fun k hk => f.block k (by have := b.size; omega) (by omega)⟩
theorem Pa.Blk.off {W W' : World} {G G' : Nat} {T : TypeId} {cs : Array Value} (h : Blk W G T cs) (f : Fr (· = G') W W') (hne : G ≠ G') : Blk W' G T cs := h.fr f hne
theorem wlocate_any {own : Nat → Prop} {t : T} (A : Nat) (cwd u g : Int) (s : ByteArray) (hs : s.size ≤ maxLen) (w : World) (h : PTo w A own t) (hsd : Sd t) :
 Calls Tryz.prog 55 #[(.agg #[.pointer (some ⟨A, 0, none⟩), .int .i64 cwd, .int .i64 u, .int .i64 g]), .string s] w fun e w' => e = .returned (plaV (plaP t (placeP t cwd u g s.data.toList))) ∧ Below w.heap.size w w' := by
 have hR := told_place hsd cwd u g s.data.toList
 generalize plaP t (placeP t cwd u g s.data.toList) = r at hR ⊢
 have HPT := hid (fun W (hb : Below w.heap.size w W) => h.below hb)
 have C1 := hid (fun W => split_any s hs W)
 have hsm : splE s.data.toList = 0 → (splN s.data.toList).length ≤ 1000 ∧ ∀ n, n ∈ splN s.data.toList → n.length ≤ 1000 := fun h => by
  rw [show splN s.data.toList = nam s.data.toList from if_pos h]
  exact nam_small h
 unfold Pa.SplitPost Pa.splitV at C1
 generalize splE s.data.toList = er at *
 generalize splAbs s.data.toList = ab at *
 generalize splDir s.data.toList = dr at *
 generalize splN s.data.toList = nl at *
 have HSM := hid hsm
 have HR := hid hR
 clear hR hsm h
 go_enter Tryz.func55, Tryz.ntmps55
 go_wp2_with fail
 refine calls_world (fun W => Blk W w.heap.size 102 (calC A cwd u g) ∧ Blk W (w.heap.size + 1) 99 (plcC noInf [] false false noInf) ∧ Below w.heap.size w W) ⟨(Blk.new w _ _).alloc _, blk1 w _ _ _, bel2 _ _ _⟩ ?_
 rintro W ⟨k1, k2, b1⟩
 refine (C1.out W).mono ?_
 rintro e W2 ⟨v, rfl, hrow, b2⟩
 obtain ⟨pa, pc, rfl⟩ := Pa.row_slice hrow
 have hcap : nl.length ≤ pc := by
  rcases hrow.2 with ⟨h1, h2⟩ | ⟨g1, c1, cur, h1, _, _, h4, _⟩
  ·omega
  ·cases h1; exact h4
 have k1 := k1.up b2
 have k2 := k2.up b2
 have b1 := bnext b1 b2
 have hz : w.heap.size + 1 < W2.heap.size := k2.lt
 have hz0 : w.heap.size < W2.heap.size := k1.lt
 obtain ⟨c0, c1, c2, c3⟩ := k1.c4
 have K1 := hid k1
 have K2 := hid k2
 have B1 := hid b1
 have HRow := hid hrow
 by_cases he : er = 0
 ·subst he
  rw [if_pos rfl] at HR
  by_cases hne : nl = []
  ·subst hne
   rw [if_pos (.inl rfl)] at HR
   clear b2 C1 k1 k2 b1 hrow
   go_wp2_with (refine wpList_storeAgg rfl 99 _ _ rfl rfl (w.heap.size + 1) 99 _ (plcC noInf [] false false noInf) rfl rfl (K2.out.alloc _) rfl aggPlace (one_all rfl) ?_; intro W5 hB5 hF5)
   rw [HR.out]
   exact bodyPost_ret (resAgg Tryz.f55 4 5 99 rfl hB5 aggPlace _ rfl rfl) rfl ⟨rfl, below_one (bal B1.out _) (by omega) hF5⟩
  ·have hpos : 0 < nl.length := List.length_pos_iff.2 hne
   obtain ⟨m, hlen⟩ : ∃ m, nl.length = m + 1 := ⟨nl.length - 1, by omega⟩
   have HN := InNames.ofRow hrow (HSM.out rfl).1 (HSM.out rfl).2
   have HN0 := hid HN
   obtain ⟨p', c', h1, h2, h3⟩ := HN
   cases h1
   obtain ⟨hns, g0, o0, rfl, hc⟩ := h3 _ _ (last_get hne)
   have hg0 : g0 < W2.heap.size := cell_lt hc
   unfold strV at hc
   rw [hlen] at hcap h2
   rw [show nl.length - 1 = m by omega] at hc
   rw [hlen]
   have hm0 : (0 : Int) ≤ (m : Int) := by omega
   have HLEN := hid hlen
   clear b2 C1 k1 k2 b1 hrow h3 hlen hpos
   have HNE := hid hne
   clear hne
   by_cases hdd : lastN nl = [46, 46]
   ·rw [if_pos (.inr hdd)] at HR
    have hdd2 : (lastN nl == [46, 46]) = true := by rw [hdd]; rfl
    clear hdd
    generalize lastN nl = ln at *
    go_wp2_with (refine wpList_storeAgg rfl 99 _ _ rfl rfl (w.heap.size + 1) 99 _ (plcC noInf [] false false noInf) rfl rfl (K2.out.alloc _) rfl aggPlace (one_all rfl) ?_; intro W5 hB5 hF5)
    rw [HR.out]
    exact bodyPost_ret (resAgg Tryz.f55 4 5 99 rfl hB5 aggPlace _ rfl rfl) rfl ⟨rfl, below_one (bal B1.out _) (by omega) hF5⟩
   ·have hR1 := HR.out
    rw [if_neg (fun x => x.elim (fun y => HNE.out y) hdd)] at hR1
    have HR1 := hid hR1
    have hdd2 : (lastN nl == [46, 46]) = false := by simpa using hdd
    clear hR1 hdd HR
    have HLG := hid (last_get HNE.out)
    generalize lastN nl = ln at *
    go_wp2_with fail
    have hcut : ∀ w, (Instr.sliceAt 54 (.slice (some ⟨g0, o0, none⟩) (m + 1) pc) none (some (.int .i64 (m : Int))) none).run Tryz.prog w = .ok (.slice (some ⟨g0, o0, none⟩) m pc) w := fun w => cut_to g0 o0 hcap w
    obtain ⟨G2, hG2⟩ : ∃ G2, G2 = W2.heap.size := ⟨_, rfl⟩
    rw [← hG2]
    refine code_world (fun W => Blk W w.heap.size 102 (calC A cwd u g) ∧ Blk W (w.heap.size + 1) 99 (plcC noInf [] false false noInf) ∧ Blk W G2 95 #[.bool ab, .slice (some ⟨g0, o0, none⟩) (m + 1) pc, .bool dr] ∧ InNames W (.slice (some ⟨g0, o0, none⟩) nl.length pc) nl ∧ W.cell? ⟨g0, o0 + m, none⟩ = some (.string ⟨ln.toArray⟩) ∧ Below w.heap.size w W)
     ⟨K1.out.alloc _, K2.out.alloc _, by rw [hG2]; exact Blk.new _ _ _, HN0.out.up (bel1 _ _), al_cell hc, bal B1.out _⟩ ?_
    rintro W3 ⟨k1, k2, k3, hn, hce, b1⟩
    have hz2 : w.heap.size + 1 < G2 := by omega
    clear K1 K2 B1 HN0 hc hz hz0 c0 c1 c2 c3 HRow hG2 hg0
    have CR := hid (fun W hp hn => wresolve_any A cwd u g ab (.slice (some ⟨g0, o0, none⟩) m pc) nl.dropLast W hp hsd hn (own := own) (t := t))
    generalize resP t cwd u g ab nl.dropLast = q at *
    obtain ⟨⟨q0, q1, q2, q3, q4, q5, q6, q7⟩, er⟩ := q
    simp only [ansV, infAg, infC] at CR HR1
    have sc := cal6 k1 k3
    have hzG : G2 < W3.heap.size := k3.lt
    have HPT2 := hid (fun W (b : Below W3.heap.size W3 W) => HPT.out W (bnext b1 b))
    have HN2 := hid (fun W (b : Below W3.heap.size W3 W) => show InNames W (.slice (some ⟨g0, o0, none⟩) m pc) nl.dropLast from by
     have := (hn.up b).begins (cap' := pc)
     rwa [HLEN.out, Nat.add_sub_cancel] at this)
    have bd : Below W3.heap.size W3 W3.drew := (Below.refl _ _).drew
    have K1 := hid k1
    have K2 := hid k2
    have K3 := hid k3
    have B1 := hid b1
    have HCE := hid hce
    clear k1 k2 k3 hn hce b1
    have scd := up6 sc bd
    have bda : ∀ o, Below W3.heap.size W3 (W3.alloc o).drew := fun o => (bel1 W3 o).drew
    have SC := hid sc
    have SCD := hid scd
    have bda := hid bda
    have bd := hid bd
    clear sc scd
    go_region_held3 (fun w' => w'.cell? ⟨w.heap.size, 0, none⟩ = some (.pointer (some ⟨A, 0, none⟩)) ∧ w'.cell? ⟨w.heap.size, 1, none⟩ = some (.int .i64 cwd) ∧ w'.cell? ⟨w.heap.size, 2, none⟩ = some (.int .i64 u) ∧ w'.cell? ⟨w.heap.size, 3, none⟩ = some (.int .i64 g) ∧ w'.cell? ⟨G2, 0, none⟩ = some (.bool ab) ∧ w'.cell? ⟨G2, 1, none⟩ = some (.slice (some ⟨g0, o0, none⟩) (m + 1) pc))
     (first | with_reducible exact S5.out | ((with_reducible refine up6c S5.out ?_ ?_ _ _ _ _ _ _ _ _) <;> omega) | with_reducible exact up6 S5.out (bel1 _ _) | with_reducible exact SCD.out | with_reducible exact up6 SC.out (bda.out _))
     (first
       | (go_at_call 104; refine (CR.out _ (HPT2.out _ (by first | with_reducible exact bd.out | with_reducible exact bda.out _)) (HN2.out _ (by first | with_reducible exact bd.out | with_reducible exact bda.out _))).mono ?_; rintro e W5 ⟨rfl, b2⟩; (try ((with_reducible have kz := blkNewUp b2); obtain ⟨z0, z1, z2, z3, z4, z5, z6, z7⟩ := kz.c8; obtain ⟨y0, y1, y2, y3, y4, y5, y6, y7⟩ := kz.f8; have KZ := hid kz; clear kz)); (first | (with_reducible have B5 := hid (bnext bd.out b2)) | (with_reducible have B5 := hid (bnext (bda.out _) b2))); (first | (with_reducible have S5 := hid (up6 SCD.out b2)) | (with_reducible have S5 := hid (up6 (up6 SC.out (bda.out _)) b2))); have B2 := hid b2; clear b2))
    ·have hlt5 := B5.out.size
     have hg5 : g0 < W3.heap.size := cell_lt HCE.out
     obtain ⟨G3, hG3⟩ : ∃ G3, G3 = W5.heap.size := ⟨_, rfl⟩
     rw [← hG3]
     have hz5 : G2 < G3 := by omega
     refine then_world (fun W => Blk W w.heap.size 102 (calC A cwd u g) ∧ Blk W (w.heap.size + 1) 99 (plcC noInf [] false false noInf) ∧ Blk W G2 95 #[.bool ab, .slice (some ⟨g0, o0, none⟩) (m + 1) pc, .bool dr] ∧ Blk W G3 50 (infC ⟨q0, q1, q2, q3, q4, q5, q6, q7⟩) ∧ W.cell? ⟨g0, o0 + m, none⟩ = some (.string ⟨ln.toArray⟩) ∧ Below w.heap.size w W) ⟨(K1.out.up B5.out).alloc _, (K2.out.up B5.out).alloc _, (K3.out.up B5.out).alloc _, by rw [hG3]; exact Blk.new _ _ _, al_cell (up1 HCE.out B5.out), bal (bnext B1.out B5.out) _⟩ ?_
     clear hlt5 hg5 hG3 B5 B2 S5 SC SCD bd bda K1 K2 K3 B1 HCE HPT2 HN2 CR
     rintro W6 ⟨k1, k2, k3, k4, hce, b1⟩
     have hz2 : w.heap.size + 1 < G2 := by omega
     obtain ⟨c0, c1, c2, c3⟩ := k1.c4
     obtain ⟨d0, d1, d2, d3, d4, d5, d6, d7⟩ := k4.c8
     have K1 := hid k1
     have K2 := hid k2
     have K3 := hid k3
     have K4 := hid k4
     have B1 := hid b1
     have HCE := hid hce
     clear k1 k2 k3 k4 hce b1
     by_cases her : er = 0
     ·subst her
      rw [if_pos rfl] at HR1
      go_wp2_with fail
      refine (wmayLook_any A cwd u g ⟨q0, q1, q2, q3, q4, q5, q6, q7⟩ W6).mono ?_
      rintro e W7 ⟨rfl, b2⟩
      have k1 := K1.out.up b2
      have k2 := K2.out.up b2
      have k3 := K3.out.up b2
      have k4 := K4.out.up b2
      have hce : W7.cell? ⟨g0, o0 + m, none⟩ = some (.string ⟨ln.toArray⟩) := (b2.cell (p := ⟨g0, o0 + m, none⟩) (cell_lt HCE.out)).trans HCE.out
      have b1 := bnext B1.out b2
      clear K1 K2 K3 K4 B1 HCE b2 c0 c1 c2 c3 d0 d1 d2 d3 d4 d5 d6 d7
      have K1 := hid k1
      have K2 := hid k2
      have K3 := hid k3
      have K4 := hid k4
      have B1 := hid b1
      have HCE := hid hce
      clear k1 k2 k3 k4 hce b1
      generalize lookX ⟨q0, q1, q2, q3, q4, q5, q6, q7⟩ u g = lx at *
      by_cases hlx : lx = 0
      ·subst hlx
       rw [if_pos rfl] at HR1
       obtain ⟨d0, d1, d2, d3, d4, d5, d6, d7⟩ := K4.out.c8
       obtain ⟨p0, p1, p2⟩ := K3.out.c3
       have hce := HCE.out
       have l2 : G2 < W7.heap.size := K3.out.lt
       have l3 : G3 < W7.heap.size := K4.out.lt
       have l4 : g0 < W7.heap.size := cell_lt hce
       go_wp2_with fail
       refine regionU (fun w' => w'.cell? ⟨G3, 0, none⟩ = some (.int .i64 q0) ∧ w'.cell? ⟨G3, 1, none⟩ = some (.int .i64 q1) ∧ w'.cell? ⟨G3, 2, none⟩ = some (.int .i64 q2) ∧ w'.cell? ⟨G3, 3, none⟩ = some (.int .i64 q3) ∧ w'.cell? ⟨G3, 4, none⟩ = some (.int .i64 q4) ∧ w'.cell? ⟨G3, 5, none⟩ = some (.int .i64 q5) ∧ w'.cell? ⟨G3, 6, none⟩ = some (.int .i64 q6) ∧ w'.cell? ⟨G3, 7, none⟩ = some (.int .i64 q7) ∧ w'.cell? ⟨G2, 1, none⟩ = some (.slice (some ⟨g0, o0, none⟩) (m + 1) pc) ∧ w'.cell? ⟨G2, 2, none⟩ = some (.bool dr) ∧ w'.cell? ⟨g0, o0 + m, none⟩ = some (.string ⟨ln.toArray⟩)) 10 (by kernel_rfl) (by exact ⟨d0, d1, d2, d3, d4, d5, d6, d7, p1, p2, hce⟩) (fun hHeld => ?_)
       refine takeU (oi := ?oi0) (v := ?v0) 0 ?hi0 (by kernel_rfl) ?hQ0 ?hy0 (by assumption) ?h0
       case hi0 => simp only [jD, jE, jF]; exact rfl
       case hQ0 => exact fun _ _ _ h => h
       case hy0 => (refine Or.inl ⟨by rfl, ?_⟩; intro w' hSw; (try dsimp only at hSw); obtain ⟨hS0, hS1, hS2, hS3, hS4, hS5, hS6, hS7, hS8, hS9, hS10⟩ := hSw; go_simp; (try with_reducible rfl))
       simp only [Act.put, jA, jB, jC]
       refine takeU (oi := ?oi1) (v := ?v1) 1 ?hi1 (by kernel_rfl) ?hQ1 ?hy1 (by assumption) ?h1
       case hi1 => simp only [jD, jE, jF]; exact rfl
       case hQ1 => exact fun _ _ _ h => h
       case hy1 => (refine Or.inl ⟨by rfl, ?_⟩; intro w' hSw; (try dsimp only at hSw); obtain ⟨hS0, hS1, hS2, hS3, hS4, hS5, hS6, hS7, hS8, hS9, hS10⟩ := hSw; go_simp; (try with_reducible rfl))
       simp only [Act.put, jA, jB, jC]
       refine takeU (oi := ?oi2) (v := ?v2) 2 ?hi2 (by kernel_rfl) ?hQ2 ?hy2 (by assumption) ?h2
       case hi2 => simp only [jD, jE, jF]; exact rfl
       case hQ2 => exact fun _ _ _ h => h
       case hy2 => (refine Or.inl ⟨by rfl, ?_⟩; intro w' hSw; (try dsimp only at hSw); obtain ⟨hS0, hS1, hS2, hS3, hS4, hS5, hS6, hS7, hS8, hS9, hS10⟩ := hSw; go_simp; (try with_reducible rfl))
       simp only [Act.put, jA, jB, jC]
       refine takeU (oi := ?oi3) (v := ?v3) 3 ?hi3 (by kernel_rfl) ?hQ3 ?hy3 (by assumption) ?h3
       case hi3 => simp only [jD, jE, jF]; exact rfl
       case hQ3 => exact fun _ _ _ h => h
       case hy3 => (refine Or.inl ⟨by rfl, ?_⟩; intro w' hSw; (try dsimp only at hSw); obtain ⟨hS0, hS1, hS2, hS3, hS4, hS5, hS6, hS7, hS8, hS9, hS10⟩ := hSw; go_simp; (try with_reducible rfl))
       simp only [Act.put, jA, jB, jC]
       refine takeU (oi := ?oi4) (v := ?v4) 4 ?hi4 (by kernel_rfl) ?hQ4 ?hy4 (by assumption) ?h4
       case hi4 => simp only [jD, jE, jF]; exact rfl
       case hQ4 => exact fun _ _ _ h => h
       case hy4 => (refine Or.inl ⟨by rfl, ?_⟩; intro w' hSw; (try dsimp only at hSw); obtain ⟨hS0, hS1, hS2, hS3, hS4, hS5, hS6, hS7, hS8, hS9, hS10⟩ := hSw; go_simp; (try with_reducible rfl))
       simp only [Act.put, jA, jB, jC]
       refine takeU (oi := ?oi5) (v := ?v5) 5 ?hi5 (by kernel_rfl) ?hQ5 ?hy5 (by assumption) ?h5
       case hi5 => simp only [jD, jE, jF]; exact rfl
       case hQ5 => exact fun _ _ _ h => h
       case hy5 => (refine Or.inl ⟨by rfl, ?_⟩; intro w' hSw; (try dsimp only at hSw); obtain ⟨hS0, hS1, hS2, hS3, hS4, hS5, hS6, hS7, hS8, hS9, hS10⟩ := hSw; go_simp; (try with_reducible rfl))
       simp only [Act.put, jA, jB, jC]
       refine takeU (oi := ?oi6) (v := ?v6) 6 ?hi6 (by kernel_rfl) ?hQ6 ?hy6 (by assumption) ?h6
       case hi6 => simp only [jD, jE, jF]; exact rfl
       case hQ6 => exact fun _ _ _ h => h
       case hy6 => (refine Or.inl ⟨by rfl, ?_⟩; intro w' hSw; (try dsimp only at hSw); obtain ⟨hS0, hS1, hS2, hS3, hS4, hS5, hS6, hS7, hS8, hS9, hS10⟩ := hSw; go_simp; (try with_reducible rfl))
       simp only [Act.put, jA, jB, jC]
       refine takeU (oi := ?oi7) (v := ?v7) 7 ?hi7 (by kernel_rfl) ?hQ7 ?hy7 (by assumption) ?h7
       case hi7 => simp only [jD, jE, jF]; exact rfl
       case hQ7 => exact fun _ _ _ h => h
       case hy7 => (refine Or.inl ⟨by rfl, ?_⟩; intro w' hSw; (try dsimp only at hSw); obtain ⟨hS0, hS1, hS2, hS3, hS4, hS5, hS6, hS7, hS8, hS9, hS10⟩ := hSw; go_simp; (try with_reducible rfl))
       simp only [Act.put, jA, jB, jC]
       refine takeU (oi := ?oi8) (v := ?v8) 8 ?hi8 (by kernel_rfl) ?hQ8 ?hy8 (by assumption) ?h8
       case hi8 => simp only [jD, jE, jF]; exact rfl
       case hQ8 => exact fun _ _ _ h => h
       case hy8 => (refine Or.inl ⟨by rfl, ?_⟩; intro w' hSw; (try dsimp only at hSw); obtain ⟨hS0, hS1, hS2, hS3, hS4, hS5, hS6, hS7, hS8, hS9, hS10⟩ := hSw; go_simp; (try with_reducible rfl))
       simp only [Act.put, jA, jB, jC]
       refine readyU [9] (by kernel_rfl) (by simp) ?_
       refine EachU.cons (o := ?ox) ?hox (fun K hK => ?_) EachU.nil
       case hox => simp only [jD, jE, jF]; exact rfl
       go_simp
       refine hK.out _ _ (fun _ => ⟨up1 d0 (bel1 W7 _).drew, up1 d1 (bel1 W7 _).drew, up1 d2 (bel1 W7 _).drew, up1 d3 (bel1 W7 _).drew, up1 d4 (bel1 W7 _).drew, up1 d5 (bel1 W7 _).drew, up1 d6 (bel1 W7 _).drew, up1 d7 (bel1 W7 _).drew, up1 p1 (bel1 W7 _).drew, up1 p2 (bel1 W7 _).drew, up1 hce (bel1 W7 _).drew⟩) (fun hH => ?_)
       replace hHeld := hH (by decide)
       clear hH
       clear hK K
       (try simp only [Act.put, jA, jB, jC])
       refine readyU [10] (by kernel_rfl) (by simp) ?_
       refine EachU.cons (o := ?oy) ?hoy (fun K hK => ?_) EachU.nil
       case hoy => simp only [jD, jE, jF]; exact rfl
       refine step_storeAgg rfl 99 _ _ rfl rfl W7.heap.size 99 (plcC noInf [] false false noInf) (plcC ⟨q0, q1, q2, q3, q4, q5, q6, q7⟩ ln dr false noInf) rfl rfl (show Blk (W7.alloc (.cells (plcC noInf [] false false noInf) 99)).drew W7.heap.size 99 (plcC noInf [] false false noInf) from Blk.new W7 _ _) rfl aggPlace (one_all rfl) ?_
       intro W8 hB8 hF8
       refine hK.out _ _ (fun h => absurd rfl h) (fun hH => ?_)
       clear hH hK K hHeld
       (try simp only [Act.put, jA, jB, jC])
       refine doneU (by kernel_rfl) ?_ _
       obtain ⟨G4, hG4⟩ : ∃ G4, G4 = W7.heap.size := ⟨_, rfl⟩
       rw [← hG4] at hB8 hF8 ⊢
       have l1 : w.heap.size + 1 < G4 := by rw [hG4]; exact K2.out.lt
       have bx := (bel1 W7 (.cells (plcC noInf [] false false noInf) 99)).drew
       have k1 := (K1.out.up bx).off hF8 (by omega)
       have k2 := (K2.out.up bx).off hF8 (by omega)
       have k4 := (K4.out.up bx).off hF8 (by omega)
       have b8 := below_one (bnext B1.out bx) (by omega) hF8
       clear K1 K2 K3 K4 B1 HCE bx hF8 d0 d1 d2 d3 d4 d5 d6 d7 p0 p1 p2 hce l2 l3 l4
       obtain ⟨c0, c1, c2, c3⟩ := k1.c4
       obtain ⟨d0, d1, d2, d3, d4, d5, d6, d7⟩ := k4.c8
       have e8 : W8.cell? ⟨G4, 8, none⟩ = some (.string ⟨ln.toArray⟩) := hB8.cell 8
       have hsz : (⟨ln.toArray⟩ : ByteArray).size ≤ maxLen := by show ln.length ≤ maxLen; unfold maxLen; omega
       have CL := hid (wlook_any A cwd u g ⟨q0, q1, q2, q3, q4, q5, q6, q7⟩ ⟨ln.toArray⟩ hsz W8 (HPT.out W8 b8) hsd)
       have K2 := hid k2
       have KB := hid hB8
       have B8 := hid b8
       clear k1 k2 k4 hB8 b8 hG4
       have HR2 := hid HR1.out
       have e9 : (⟨ln.toArray⟩ : ByteArray).data.toList = ln := rfl
       rw [e9] at CL
       generalize lookI t q0 ln = lk at *
       obtain ⟨⟨m0, m1, m2, m3, m4, m5, m6, m7⟩, ok⟩ := lk
       simp only [infV] at CL HR2
       clear HR1 e9
       go_wp2_with fail
       refine CL.out.mono ?_
       rintro e W9 ⟨rfl, b9⟩
       have hB9 := KB.out.up b9
       have hk2 := K2.out.up b9
       have B9 := hid (bnext B8.out b9)
       have HB9 := hid hB9
       have HK2 := hid hk2
       clear b9 hB9 hk2 K2 KB B8 CL c0 c1 c2 c3 d0 d1 d2 d3 d4 d5 d6 d7 e8
       go_wp2_with (first | (refine wpList_storePart rfl 50 _ _ rfl rfl G4 11 99 (plcC ⟨q0, q1, q2, q3, q4, q5, q6, q7⟩ ln dr false noInf) (infC ⟨m0, m1, m2, m3, m4, m5, m6, m7⟩) (plcC ⟨q0, q1, q2, q3, q4, q5, q6, q7⟩ ln dr false ⟨m0, m1, m2, m3, m4, m5, m6, m7⟩) rfl rfl HB9.out (show 11 + 8 ≤ 19 by omega) aggInfo (one_all rfl) (plc_over _ _ _ _ _) ?_; intro W10 hB10 hF10; have e10 : W10.cell? ⟨G4, 10, none⟩ = some (.bool false) := hB10.cell 10; have f10 := hB10.frozen 10; have HB10 := hid hB10; have HF10 := hid hF10; clear hB10 hF10) | (refine wpList_loadAgg rfl 99 _ rfl G4 99 (plcC ⟨q0, q1, q2, q3, q4, q5, q6, q7⟩ ln dr ok ⟨m0, m1, m2, m3, m4, m5, m6, m7⟩) rfl (plc_set HB10.out) aggPlace ?_) | (refine wpList_storeAgg rfl 99 _ _ rfl rfl (w.heap.size + 1) 99 (plcC noInf [] false false noInf) (plcC ⟨q0, q1, q2, q3, q4, q5, q6, q7⟩ ln dr ok ⟨m0, m1, m2, m3, m4, m5, m6, m7⟩) rfl rfl (HK2.out.off (HF10.out.setCell (.inl rfl) _) (by omega)) rfl aggPlace (one_all rfl) ?_; intro W11 hB11 hF11))
       rw [HR2.out]
       exact bodyPost_ret (resAgg Tryz.f55 4 5 99 rfl hB11 aggPlace _ rfl rfl) rfl ⟨rfl, below_one (below_one B9.out (by omega) (HF10.out.setCell (.inl rfl) _)) (by omega) hF11⟩
      ·have he2 : ((lx : Int) == 0) = false := by simp; omega
       have he3 : ((lx : Int) != 0) = true := by simp; omega
       rw [if_neg hlx] at HR1
       go_wp2_with (refine wpList_storeAgg rfl 99 _ _ rfl rfl (w.heap.size + 1) 99 _ (plcC noInf [] false false noInf) rfl rfl K2.out rfl aggPlace (one_all rfl) ?_; intro W8 hB8 hF8)
       rw [HR1.out]
       exact bodyPost_ret (resAgg Tryz.f55 4 5 99 rfl hB8 aggPlace _ rfl rfl) rfl ⟨rfl, below_one B1.out (by omega) hF8⟩
     ·have he2 : ((er : Int) == 0) = false := by simp; omega
      have he3 : ((er : Int) != 0) = true := by simp; omega
      rw [if_neg her] at HR1
      go_wp2_with (refine wpList_storeAgg rfl 99 _ _ rfl rfl (w.heap.size + 1) 99 _ (plcC noInf [] false false noInf) rfl rfl K2.out rfl aggPlace (one_all rfl) ?_; intro W8 hB8 hF8)
      rw [HR1.out]
      exact bodyPost_ret (resAgg Tryz.f55 4 5 99 rfl hB8 aggPlace _ rfl rfl) rfl ⟨rfl, below_one B1.out (by omega) hF8⟩
    ·have hlt5 := B5.out.size
     have hg5 : g0 < W3.heap.size := cell_lt HCE.out
     obtain ⟨G3, hG3⟩ : ∃ G3, G3 = W3.heap.size := ⟨_, rfl⟩
     have KZ3 : Hid (Blk W5 G3 50 (infC noInf)) := hid (by rw [hG3]; exact KZ.out)
     rw [← hG3]
     have hz5 : G2 < G3 := by omega
     refine then_world (fun W => Blk W w.heap.size 102 (calC A cwd u g) ∧ Blk W (w.heap.size + 1) 99 (plcC noInf [] false false noInf) ∧ Blk W G2 95 #[.bool ab, .slice (some ⟨g0, o0, none⟩) (m + 1) pc, .bool dr] ∧ Blk W G3 50 (infC ⟨q0, q1, q2, q3, q4, q5, q6, q7⟩) ∧ W.cell? ⟨g0, o0 + m, none⟩ = some (.string ⟨ln.toArray⟩) ∧ Below w.heap.size w W) ⟨far8 (K1.out.up B5.out) (by omega) _ _ _ _ _ _ _ _, far8 (K2.out.up B5.out) (by omega) _ _ _ _ _ _ _ _, far8 (K3.out.up B5.out) (by omega) _ _ _ _ _ _ _ _, set8 KZ3.out _ _ _ _ _ _ _ _, far1 (up1 HCE.out B5.out) (by omega) _ _ _ _ _ _ _ _, bel8 (bnext B1.out B5.out) (by omega) _ _ _ _ _ _ _ _⟩ ?_
     clear hlt5 hg5 hG3 KZ KZ3 B5 B2 S5 SC SCD bd bda K1 K2 K3 B1 HCE HPT2 HN2 CR
     rintro W6 ⟨k1, k2, k3, k4, hce, b1⟩
     have hz2 : w.heap.size + 1 < G2 := by omega
     obtain ⟨c0, c1, c2, c3⟩ := k1.c4
     obtain ⟨d0, d1, d2, d3, d4, d5, d6, d7⟩ := k4.c8
     have K1 := hid k1
     have K2 := hid k2
     have K3 := hid k3
     have K4 := hid k4
     have B1 := hid b1
     have HCE := hid hce
     clear k1 k2 k3 k4 hce b1
     by_cases her : er = 0
     ·subst her
      rw [if_pos rfl] at HR1
      go_wp2_with fail
      refine (wmayLook_any A cwd u g ⟨q0, q1, q2, q3, q4, q5, q6, q7⟩ W6).mono ?_
      rintro e W7 ⟨rfl, b2⟩
      have k1 := K1.out.up b2
      have k2 := K2.out.up b2
      have k3 := K3.out.up b2
      have k4 := K4.out.up b2
      have hce : W7.cell? ⟨g0, o0 + m, none⟩ = some (.string ⟨ln.toArray⟩) := (b2.cell (p := ⟨g0, o0 + m, none⟩) (cell_lt HCE.out)).trans HCE.out
      have b1 := bnext B1.out b2
      clear K1 K2 K3 K4 B1 HCE b2 c0 c1 c2 c3 d0 d1 d2 d3 d4 d5 d6 d7
      have K1 := hid k1
      have K2 := hid k2
      have K3 := hid k3
      have K4 := hid k4
      have B1 := hid b1
      have HCE := hid hce
      clear k1 k2 k3 k4 hce b1
      generalize lookX ⟨q0, q1, q2, q3, q4, q5, q6, q7⟩ u g = lx at *
      by_cases hlx : lx = 0
      ·subst hlx
       rw [if_pos rfl] at HR1
       obtain ⟨d0, d1, d2, d3, d4, d5, d6, d7⟩ := K4.out.c8
       obtain ⟨p0, p1, p2⟩ := K3.out.c3
       have hce := HCE.out
       have l2 : G2 < W7.heap.size := K3.out.lt
       have l3 : G3 < W7.heap.size := K4.out.lt
       have l4 : g0 < W7.heap.size := cell_lt hce
       go_wp2_with fail
       refine regionU (fun w' => w'.cell? ⟨G3, 0, none⟩ = some (.int .i64 q0) ∧ w'.cell? ⟨G3, 1, none⟩ = some (.int .i64 q1) ∧ w'.cell? ⟨G3, 2, none⟩ = some (.int .i64 q2) ∧ w'.cell? ⟨G3, 3, none⟩ = some (.int .i64 q3) ∧ w'.cell? ⟨G3, 4, none⟩ = some (.int .i64 q4) ∧ w'.cell? ⟨G3, 5, none⟩ = some (.int .i64 q5) ∧ w'.cell? ⟨G3, 6, none⟩ = some (.int .i64 q6) ∧ w'.cell? ⟨G3, 7, none⟩ = some (.int .i64 q7) ∧ w'.cell? ⟨G2, 1, none⟩ = some (.slice (some ⟨g0, o0, none⟩) (m + 1) pc) ∧ w'.cell? ⟨G2, 2, none⟩ = some (.bool dr) ∧ w'.cell? ⟨g0, o0 + m, none⟩ = some (.string ⟨ln.toArray⟩)) 10 (by kernel_rfl) (by exact ⟨d0, d1, d2, d3, d4, d5, d6, d7, p1, p2, hce⟩) (fun hHeld => ?_)
       refine takeU (oi := ?oi0b) (v := ?v0b) 0 ?hi0b (by kernel_rfl) ?hQ0b ?hy0b (by assumption) ?h0b
       case hi0b => simp only [jD, jE, jF]; exact rfl
       case hQ0b => exact fun _ _ _ h => h
       case hy0b => (refine Or.inl ⟨by rfl, ?_⟩; intro w' hSw; (try dsimp only at hSw); obtain ⟨hS0, hS1, hS2, hS3, hS4, hS5, hS6, hS7, hS8, hS9, hS10⟩ := hSw; go_simp; (try with_reducible rfl))
       simp only [Act.put, jA, jB, jC]
       refine takeU (oi := ?oi1b) (v := ?v1b) 1 ?hi1b (by kernel_rfl) ?hQ1b ?hy1b (by assumption) ?h1b
       case hi1b => simp only [jD, jE, jF]; exact rfl
       case hQ1b => exact fun _ _ _ h => h
       case hy1b => (refine Or.inl ⟨by rfl, ?_⟩; intro w' hSw; (try dsimp only at hSw); obtain ⟨hS0, hS1, hS2, hS3, hS4, hS5, hS6, hS7, hS8, hS9, hS10⟩ := hSw; go_simp; (try with_reducible rfl))
       simp only [Act.put, jA, jB, jC]
       refine takeU (oi := ?oi2b) (v := ?v2b) 2 ?hi2b (by kernel_rfl) ?hQ2b ?hy2b (by assumption) ?h2b
       case hi2b => simp only [jD, jE, jF]; exact rfl
       case hQ2b => exact fun _ _ _ h => h
       case hy2b => (refine Or.inl ⟨by rfl, ?_⟩; intro w' hSw; (try dsimp only at hSw); obtain ⟨hS0, hS1, hS2, hS3, hS4, hS5, hS6, hS7, hS8, hS9, hS10⟩ := hSw; go_simp; (try with_reducible rfl))
       simp only [Act.put, jA, jB, jC]
       refine takeU (oi := ?oi3b) (v := ?v3b) 3 ?hi3b (by kernel_rfl) ?hQ3b ?hy3b (by assumption) ?h3b
       case hi3b => simp only [jD, jE, jF]; exact rfl
       case hQ3b => exact fun _ _ _ h => h
       case hy3b => (refine Or.inl ⟨by rfl, ?_⟩; intro w' hSw; (try dsimp only at hSw); obtain ⟨hS0, hS1, hS2, hS3, hS4, hS5, hS6, hS7, hS8, hS9, hS10⟩ := hSw; go_simp; (try with_reducible rfl))
       simp only [Act.put, jA, jB, jC]
       refine takeU (oi := ?oi4b) (v := ?v4b) 4 ?hi4b (by kernel_rfl) ?hQ4b ?hy4b (by assumption) ?h4b
       case hi4b => simp only [jD, jE, jF]; exact rfl
       case hQ4b => exact fun _ _ _ h => h
       case hy4b => (refine Or.inl ⟨by rfl, ?_⟩; intro w' hSw; (try dsimp only at hSw); obtain ⟨hS0, hS1, hS2, hS3, hS4, hS5, hS6, hS7, hS8, hS9, hS10⟩ := hSw; go_simp; (try with_reducible rfl))
       simp only [Act.put, jA, jB, jC]
       refine takeU (oi := ?oi5b) (v := ?v5b) 5 ?hi5b (by kernel_rfl) ?hQ5b ?hy5b (by assumption) ?h5b
       case hi5b => simp only [jD, jE, jF]; exact rfl
       case hQ5b => exact fun _ _ _ h => h
       case hy5b => (refine Or.inl ⟨by rfl, ?_⟩; intro w' hSw; (try dsimp only at hSw); obtain ⟨hS0, hS1, hS2, hS3, hS4, hS5, hS6, hS7, hS8, hS9, hS10⟩ := hSw; go_simp; (try with_reducible rfl))
       simp only [Act.put, jA, jB, jC]
       refine takeU (oi := ?oi6b) (v := ?v6b) 6 ?hi6b (by kernel_rfl) ?hQ6b ?hy6b (by assumption) ?h6b
       case hi6b => simp only [jD, jE, jF]; exact rfl
       case hQ6b => exact fun _ _ _ h => h
       case hy6b => (refine Or.inl ⟨by rfl, ?_⟩; intro w' hSw; (try dsimp only at hSw); obtain ⟨hS0, hS1, hS2, hS3, hS4, hS5, hS6, hS7, hS8, hS9, hS10⟩ := hSw; go_simp; (try with_reducible rfl))
       simp only [Act.put, jA, jB, jC]
       refine takeU (oi := ?oi7b) (v := ?v7b) 7 ?hi7b (by kernel_rfl) ?hQ7b ?hy7b (by assumption) ?h7b
       case hi7b => simp only [jD, jE, jF]; exact rfl
       case hQ7b => exact fun _ _ _ h => h
       case hy7b => (refine Or.inl ⟨by rfl, ?_⟩; intro w' hSw; (try dsimp only at hSw); obtain ⟨hS0, hS1, hS2, hS3, hS4, hS5, hS6, hS7, hS8, hS9, hS10⟩ := hSw; go_simp; (try with_reducible rfl))
       simp only [Act.put, jA, jB, jC]
       refine takeU (oi := ?oi8b) (v := ?v8b) 8 ?hi8b (by kernel_rfl) ?hQ8b ?hy8b (by assumption) ?h8b
       case hi8b => simp only [jD, jE, jF]; exact rfl
       case hQ8b => exact fun _ _ _ h => h
       case hy8b => (refine Or.inl ⟨by rfl, ?_⟩; intro w' hSw; (try dsimp only at hSw); obtain ⟨hS0, hS1, hS2, hS3, hS4, hS5, hS6, hS7, hS8, hS9, hS10⟩ := hSw; go_simp; (try with_reducible rfl))
       simp only [Act.put, jA, jB, jC]
       refine readyU [9] (by kernel_rfl) (by simp) ?_
       refine EachU.cons (o := ?oxb) ?hoxb (fun K hK => ?_) EachU.nil
       case hoxb => simp only [jD, jE, jF]; exact rfl
       go_simp
       refine hK.out _ _ (fun _ => ⟨up1 d0 (bel1 W7 _).drew, up1 d1 (bel1 W7 _).drew, up1 d2 (bel1 W7 _).drew, up1 d3 (bel1 W7 _).drew, up1 d4 (bel1 W7 _).drew, up1 d5 (bel1 W7 _).drew, up1 d6 (bel1 W7 _).drew, up1 d7 (bel1 W7 _).drew, up1 p1 (bel1 W7 _).drew, up1 p2 (bel1 W7 _).drew, up1 hce (bel1 W7 _).drew⟩) (fun hH => ?_)
       replace hHeld := hH (by decide)
       clear hH
       clear hK K
       (try simp only [Act.put, jA, jB, jC])
       refine readyU [10] (by kernel_rfl) (by simp) ?_
       refine EachU.cons (o := ?oyb) ?hoyb (fun K hK => ?_) EachU.nil
       case hoyb => simp only [jD, jE, jF]; exact rfl
       refine step_storeAgg rfl 99 _ _ rfl rfl W7.heap.size 99 (plcC noInf [] false false noInf) (plcC ⟨q0, q1, q2, q3, q4, q5, q6, q7⟩ ln dr false noInf) rfl rfl (show Blk (W7.alloc (.cells (plcC noInf [] false false noInf) 99)).drew W7.heap.size 99 (plcC noInf [] false false noInf) from Blk.new W7 _ _) rfl aggPlace (one_all rfl) ?_
       intro W8 hB8 hF8
       refine hK.out _ _ (fun h => absurd rfl h) (fun hH => ?_)
       clear hH hK K hHeld
       (try simp only [Act.put, jA, jB, jC])
       refine doneU (by kernel_rfl) ?_ _
       obtain ⟨G4, hG4⟩ : ∃ G4, G4 = W7.heap.size := ⟨_, rfl⟩
       rw [← hG4] at hB8 hF8 ⊢
       have l1 : w.heap.size + 1 < G4 := by rw [hG4]; exact K2.out.lt
       have bx := (bel1 W7 (.cells (plcC noInf [] false false noInf) 99)).drew
       have k1 := (K1.out.up bx).off hF8 (by omega)
       have k2 := (K2.out.up bx).off hF8 (by omega)
       have k4 := (K4.out.up bx).off hF8 (by omega)
       have b8 := below_one (bnext B1.out bx) (by omega) hF8
       clear K1 K2 K3 K4 B1 HCE bx hF8 d0 d1 d2 d3 d4 d5 d6 d7 p0 p1 p2 hce l2 l3 l4
       obtain ⟨c0, c1, c2, c3⟩ := k1.c4
       obtain ⟨d0, d1, d2, d3, d4, d5, d6, d7⟩ := k4.c8
       have e8 : W8.cell? ⟨G4, 8, none⟩ = some (.string ⟨ln.toArray⟩) := hB8.cell 8
       have hsz : (⟨ln.toArray⟩ : ByteArray).size ≤ maxLen := by show ln.length ≤ maxLen; unfold maxLen; omega
       have CL := hid (wlook_any A cwd u g ⟨q0, q1, q2, q3, q4, q5, q6, q7⟩ ⟨ln.toArray⟩ hsz W8 (HPT.out W8 b8) hsd)
       have K2 := hid k2
       have KB := hid hB8
       have B8 := hid b8
       clear k1 k2 k4 hB8 b8 hG4
       have HR2 := hid HR1.out
       have e9 : (⟨ln.toArray⟩ : ByteArray).data.toList = ln := rfl
       rw [e9] at CL
       generalize lookI t q0 ln = lk at *
       obtain ⟨⟨m0, m1, m2, m3, m4, m5, m6, m7⟩, ok⟩ := lk
       simp only [infV] at CL HR2
       clear HR1 e9
       go_wp2_with fail
       refine CL.out.mono ?_
       rintro e W9 ⟨rfl, b9⟩
       have hB9 := KB.out.up b9
       have hk2 := K2.out.up b9
       have B9 := hid (bnext B8.out b9)
       have HB9 := hid hB9
       have HK2 := hid hk2
       clear b9 hB9 hk2 K2 KB B8 CL c0 c1 c2 c3 d0 d1 d2 d3 d4 d5 d6 d7 e8
       go_wp2_with (first | (refine wpList_storePart rfl 50 _ _ rfl rfl G4 11 99 (plcC ⟨q0, q1, q2, q3, q4, q5, q6, q7⟩ ln dr false noInf) (infC ⟨m0, m1, m2, m3, m4, m5, m6, m7⟩) (plcC ⟨q0, q1, q2, q3, q4, q5, q6, q7⟩ ln dr false ⟨m0, m1, m2, m3, m4, m5, m6, m7⟩) rfl rfl HB9.out (show 11 + 8 ≤ 19 by omega) aggInfo (one_all rfl) (plc_over _ _ _ _ _) ?_; intro W10 hB10 hF10; have e10 : W10.cell? ⟨G4, 10, none⟩ = some (.bool false) := hB10.cell 10; have f10 := hB10.frozen 10; have HB10 := hid hB10; have HF10 := hid hF10; clear hB10 hF10) | (refine wpList_loadAgg rfl 99 _ rfl G4 99 (plcC ⟨q0, q1, q2, q3, q4, q5, q6, q7⟩ ln dr ok ⟨m0, m1, m2, m3, m4, m5, m6, m7⟩) rfl (plc_set HB10.out) aggPlace ?_) | (refine wpList_storeAgg rfl 99 _ _ rfl rfl (w.heap.size + 1) 99 (plcC noInf [] false false noInf) (plcC ⟨q0, q1, q2, q3, q4, q5, q6, q7⟩ ln dr ok ⟨m0, m1, m2, m3, m4, m5, m6, m7⟩) rfl rfl (HK2.out.off (HF10.out.setCell (.inl rfl) _) (by omega)) rfl aggPlace (one_all rfl) ?_; intro W11 hB11 hF11))
       rw [HR2.out]
       exact bodyPost_ret (resAgg Tryz.f55 4 5 99 rfl hB11 aggPlace _ rfl rfl) rfl ⟨rfl, below_one (below_one B9.out (by omega) (HF10.out.setCell (.inl rfl) _)) (by omega) hF11⟩
      ·have he2 : ((lx : Int) == 0) = false := by simp; omega
       have he3 : ((lx : Int) != 0) = true := by simp; omega
       rw [if_neg hlx] at HR1
       go_wp2_with (refine wpList_storeAgg rfl 99 _ _ rfl rfl (w.heap.size + 1) 99 _ (plcC noInf [] false false noInf) rfl rfl K2.out rfl aggPlace (one_all rfl) ?_; intro W8 hB8 hF8)
       rw [HR1.out]
       exact bodyPost_ret (resAgg Tryz.f55 4 5 99 rfl hB8 aggPlace _ rfl rfl) rfl ⟨rfl, below_one B1.out (by omega) hF8⟩
     ·have he2 : ((er : Int) == 0) = false := by simp; omega
      have he3 : ((er : Int) != 0) = true := by simp; omega
      rw [if_neg her] at HR1
      go_wp2_with (refine wpList_storeAgg rfl 99 _ _ rfl rfl (w.heap.size + 1) 99 _ (plcC noInf [] false false noInf) rfl rfl K2.out rfl aggPlace (one_all rfl) ?_; intro W8 hB8 hF8)
      rw [HR1.out]
      exact bodyPost_ret (resAgg Tryz.f55 4 5 99 rfl hB8 aggPlace _ rfl rfl) rfl ⟨rfl, below_one B1.out (by omega) hF8⟩
 ·have he2 : ((er : Int) == 0) = false := by simp; omega
  have he3 : ((er : Int) != 0) = true := by simp; omega
  rw [if_neg he] at HR
  clear b2 C1 k1 k2 b1 hrow
  go_wp2_with (refine wpList_storeAgg rfl 99 _ _ rfl rfl (w.heap.size + 1) 99 _ (plcC noInf [] false false noInf) rfl rfl (K2.out.alloc _) rfl aggPlace (one_all rfl) ?_; intro W5 hB5 hF5)
  rw [HR.out]
  exact bodyPost_ret (resAgg Tryz.f55 4 5 99 rfl hB5 aggPlace _ rfl rfl) rfl ⟨rfl, below_one (bal B1.out _) (by omega) hF5⟩
end
section
open Go.RowKit Ino Go.Maps
open Pa (Blk strV)
variable {w W W' : World} {A : Nat} {own L L' : Nat → Prop} {t t' : T}
def Pk (L : Nat → Prop) (w : World) (own : Nat → Prop) (A : Nat) (t : T) (W : World) : Prop :=
 ∃ own', PTo W A own' t ∧ (∀ g, own' g → (own g ∨ w.heap.size ≤ g) ∧ ¬ L g ∧ g < W.heap.size) ∧ Fr own w W ∧ ∀ g, L g → w.heap.size ≤ g ∧ g < W.heap.size
theorem PTo.wider {own' : Nat → Prop} (h : PTo w A own t) (ho : ∀ g, own g → own' g) : PTo w A own' t := by
 obtain ⟨nb, mb, h1, h2⟩ := h
 exact ⟨nb, mb, h1, fun g hg => ho g (h2 g hg)⟩
theorem PTo.kept (h : PTo w A own t) : PTo w A (fun g => own g ∧ g < w.heap.size) t := by
 obtain ⟨nb, mb, h1, h2⟩ := h
 exact ⟨nb, mb, h1, fun g hg => ⟨h2 g hg, h1.tlt hg⟩⟩
theorem Pk.start (h : PTo w A own t) (b : Below w.heap.size w W) (hL : ∀ g, L g → w.heap.size ≤ g ∧ g < W.heap.size) : Pk L w own A t W :=
 ⟨_, h.kept.below b, fun g hg => ⟨.inl hg.1, fun k => by have := hL g k; have := hg.2; omega, by have := hg.2; have := b.size; omega⟩, Fr.of_below b, hL⟩
theorem Pk.up (h : Pk L w own A t W) (b : Below W.heap.size W W') (hL : ∀ g, L' g → L g ∨ (W.heap.size ≤ g ∧ g < W'.heap.size)) : Pk L' w own A t W' := by
 obtain ⟨own', h1, h2, h3, h4⟩ := h
 have hb := b.size
 have hs := h3.size
 refine ⟨own', h1.below b, fun g hg => ⟨(h2 g hg).1, fun k => ?_, by have := h2 g hg; omega⟩, h3.trans (Fr.of_below b), fun g hg => ?_⟩
 ·rcases hL g k with k | k
  ·exact (h2 g hg).2.1 k
  ·have := h2 g hg; omega
 ·rcases hL g hg with k | k
  ·have := h4 g k; omega
  ·omega
theorem Pk.done (h : Pk L w own A t W) : Pt w A own t W := by
 obtain ⟨own', h1, h2, h3, h4⟩ := h
 refine ⟨fun g => own g ∨ own' g, h1.wider fun g => .inr, fun g => .inl, fun g hg => ?_, h3⟩
 rcases hg with hg | hg
 ·exact .inl hg
 ·exact (h2 g hg).1
theorem Pk.blk {G : Nat} {T : TypeId} {cs : Array Value} (k : Blk W G T cs) (hf : Fr (fun g => ¬ L g) W W') (hG : L G) : Blk W' G T cs := (hf.block G k.lt fun n => n hG).trans k
theorem Pk.call {P : Program} {f : FuncId} {args : Array Value} {v : Value} (h : Pk L w own A t W) (H : ∀ own', PTo W A own' t → Calls P f args W fun e w' => e = .returned v ∧ Pt W A own' t' w') :
 Calls P f args W fun e w' => e = .returned v ∧ Pk L w own A t' w' ∧ Fr (fun g => ¬ L g) W w' := by
 obtain ⟨own', h1, h2, h3, h4⟩ := h
 refine (H own' h1).mono fun e w' ⟨he, own2, k1, k2, k3, k4⟩ => ⟨he, ⟨fun g => own2 g ∧ g < w'.heap.size, k1.kept, fun g hg => ⟨?_, ?_, hg.2⟩, ?_, fun g hg => ⟨(h4 g hg).1, by have := (h4 g hg).2; have := k4.size; omega⟩⟩, ?_⟩
 ·rcases k3 g hg.1 with k | k
  ·exact (h2 g k).1
  ·have := h3.size; exact .inr (by omega)
 ·intro hLg
  rcases k3 g hg.1 with k | k
  ·exact (h2 g k).2.1 hLg
  ·have := (h4 g hLg).2; omega
 ·refine ⟨k4.os.trans h3.os, k4.tape.trans h3.tape, k4.output.trans h3.output, Nat.le_trans h3.size k4.size, fun i hi hn => (k4.block i (by have := h3.size; omega) fun ho => ?_).trans (h3.block i hi hn)⟩
  rcases (h2 i ho).1 with k | k
  ·exact hn k
  ·omega
 ·exact k4.mono fun g _ hg => (h2 g hg).2.1
theorem Pk.pto (h : Pk L w own A t W) : ∃ own', PTo W A own' t := by
 obtain ⟨own', h1, _⟩ := h
 exact ⟨own', h1⟩
theorem Pk.size (h : Pk L w own A t W) : w.heap.size ≤ W.heap.size := by
 obtain ⟨_, _, _, h3, _⟩ := h
 exact h3.size
end
section
open Go.RowKit Ino Go.Maps
open Pa (Blk strV)
variable {own : Nat → Prop} {t : T}
structure PlA where
 dir : Inf
 name : Bs
 must : Bool
 taken : Bool
 entry : Inf
theorem wisWant_any (n : Int) (w : World) : Calls Tryz.prog 59 #[.int .i64 n] w fun e w' => e = .returned (.bool (wantOk n)) ∧ w = w' := by
 have h : wantOk n = (n == 4 || (n == 2 || n == 6)) := rfl
 cases h4 : (n == 4)
 ·cases h2 : (n == 2)
  ·cases h6 : (n == 6)
   all_goals
    rw [h4, h2, h6] at h
    go_enter Tryz.func59, Tryz.ntmps59
    go_wp2
    go_ret
    exact ⟨ret_bool (by rw [h]; rfl), rfl⟩
  ·rw [h4, h2] at h
   go_enter Tryz.func59, Tryz.ntmps59
   go_wp2
   go_ret
   exact ⟨ret_bool (by rw [h]; rfl), rfl⟩
 ·rw [h4] at h
  go_enter Tryz.func59, Tryz.ntmps59
  go_wp2
  go_ret
  exact ⟨ret_bool (by rw [h]; rfl), rfl⟩
theorem create_at {t t1 : T} {u g : Int} {d n c1 : Nat} {nm : Bs} {kind mode : Int} (h1 : makeP t (rMake kind mode u g 0) kind mode u g 0 = (t1, n, c1)) :
 createP t u g d nm kind mode = if c1 = 0 then (if (enterP t1 d nm n).2 = 0 then ((enterP t1 d nm n).1, n, 0) else ((dropP (enterP t1 d nm n).1 n).1, 0, (enterP t1 d nm n).2)) else (t1, 0, c1) := by
 unfold createP
 rw [h1]
theorem wcreate_any (A : Nat) (cwd u g : Int) (p : PlA) (kind mode : Int) (hm : wfI mode) (d : Nat) (hd : p.dir.ino = (d : Int)) (hns : p.name.length ≤ 1000) (w : World) (h : PTo w A own t) (hs : Sound t) (hb : ∀ k, (t k).holds ≤ 999999) :
 Calls Tryz.prog 68 #[(.agg #[.pointer (some ⟨A, 0, none⟩), .int .i64 cwd, .int .i64 u, .int .i64 g]), .agg (plcC p.dir p.name p.must p.taken p.entry), .int .i64 kind, .int .i64 mode] w fun e w' => e = .returned (makeV (createP t u g d p.name kind mode).2) ∧ Pt w A own (createP t u g d p.name kind mode).1 w' := by
 obtain ⟨⟨d0, d1, d2, d3, d4, d5, d6, d7⟩, nm, mu, tk, ⟨x0, x1, x2, x3, x4, x5, x6, x7⟩⟩ := p
 simp only at hd hns ⊢
 subst hd
 have HM := hid hm
 have s1 : Sound (makeP t (rMake kind mode u g 0) kind mode u g 0).1 := sound_make hs _ _ _ _ _ _ (rMake_kinds _ _ _ _ _)
 have b1 : ∀ k, ((makeP t (rMake kind mode u g 0) kind mode u g 0).1 k).holds ≤ 1000000 := fun k => by
  have := (HB.make (n := 999999) (t := t) hb (rMake kind mode u g 0) kind mode u g 0) k
  exact this
 have C1 := hid (fun W own' (hp : PTo W A own' t) => pmake_any kind mode u g 0 hm W hp hs.sd)
 obtain ⟨t1, n, c1, hmk⟩ : ∃ t1 n c1, makeP t (rMake kind mode u g 0) kind mode u g 0 = (t1, n, c1) := ⟨_, _, _, rfl⟩
 have hC := create_at (d := d) (nm := nm) hmk
 rw [hmk] at s1 b1 C1
 simp only [makeV] at C1
 generalize createP t u g d nm kind mode = cr at hC ⊢
 have hsz : (⟨nm.toArray⟩ : ByteArray).size ≤ maxLen := by show nm.length ≤ maxLen; unfold maxLen; omega
 have C2 := hid (fun W own' (hp : PTo W A own' t1) => penter_any (d : Int) (n : Int) ⟨nm.toArray⟩ W hp s1.sd hsz)
 have s2 : Sound (enterP t1 (d : Int) nm (n : Int)).1 := sound_enter s1 _ _ _
 have b2 : ∀ k, ((enterP t1 (d : Int) nm (n : Int)).1 k).holds ≤ 1000000 := fun k => (HB.enter (n := 1000000) (t := t1) b1 _ _ _) k
 have C3 := hid (fun W own' (hp : PTo W A own' (enterP t1 (d : Int) nm (n : Int)).1) => pdrop_any (n : Int) W hp s2 b2)
 have e2 : (⟨nm.toArray⟩ : ByteArray).data.toList = nm := rfl
 rw [e2] at C2
 obtain ⟨t2, c2, hen⟩ : ∃ t2 c2, enterP t1 (d : Int) nm (n : Int) = (t2, c2) := ⟨_, _, rfl⟩
 rw [hen] at C2 C3 hC
 obtain ⟨t3, ok, hdr⟩ : ∃ t3 ok, dropP t2 (n : Int) = (t3, ok) := ⟨_, _, rfl⟩
 simp only [hdr] at C3 hC
 have HC := hid hC
 have H := hid h
 clear hm s1 b1 hmk hC hsz s2 b2 e2 hen hdr h hs hb hns
 obtain ⟨ds, hds⟩ : ∃ ds : ByteArray, ds = ⟨nm.toArray⟩ := ⟨_, rfl⟩
 unfold plcC strV
 rw [← hds] at C2 ⊢
 clear hds
 go_enter Tryz.func68, Tryz.ntmps68
 go_wp2_with fail
 refine calls_world (fun W => Blk W w.heap.size 102 (calC A cwd u g) ∧ Blk W (w.heap.size + 1) 99 #[.int .i64 d, .int .i64 d1, .int .i64 d2, .int .i64 d3, .int .i64 d4, .int .i64 d5, .int .i64 d6, .int .i64 d7, .string ds, .bool mu, .bool tk, .int .i64 x0, .int .i64 x1, .int .i64 x2, .int .i64 x3, .int .i64 x4, .int .i64 x5, .int .i64 x6, .int .i64 x7] ∧ Pk (fun g => g = w.heap.size ∨ g = w.heap.size + 1) w own A t W) ⟨(Blk.new w _ _).alloc _, blk1 w _ _ _, Pk.start H.out (bel2 _ _ _) (fun g hg => by simp; omega)⟩ ?_
 rintro W ⟨k1, k2, p1⟩
 refine (p1.call (fun own' hp => C1.out W own' hp)).mono ?_
 rintro e W2 ⟨rfl, p2, f2⟩
 have k1 := Pk.blk k1 f2 (.inl rfl)
 have k2 := Pk.blk k2 f2 (.inr rfl)
 obtain ⟨c0, c1', c2', c3⟩ := k1.c4
 have e0 := k2.cell 0
 have e8 := k2.cell 8
 simp only [jD, jF, jE] at e0 e8
 have P2 := hid p2
 have K1 := hid k1
 have K2 := hid k2
 clear p1 p2 f2 k1 k2 C1 H
 by_cases hc1 : c1 = 0
 ·subst hc1
  rw [if_pos rfl] at HC
  go_wp2_with fail
  refine (P2.out.call (fun own' hp => C2.out W2 own' hp)).mono ?_
  rintro e W3 ⟨rfl, p3, f3⟩
  have k1 := Pk.blk K1.out f3 (.inl rfl)
  obtain ⟨c0, c1', c2', c3⟩ := k1.c4
  have P3 := hid p3
  clear p3 f3 k1 K1 K2 e0 e8 P2
  by_cases hc2 : c2 = 0
  ·subst hc2
   rw [if_pos rfl] at HC
   go_wp2
   go_ret2
   rw [HC.out]
   exact ⟨rfl, P3.out.done⟩
  ·have he2 : ((c2 : Int) == 0) = false := by simp; omega
   have he3 : ((c2 : Int) != 0) = true := by simp; omega
   rw [if_neg hc2] at HC
   go_wp2_with fail
   refine (P3.out.call (fun own' hp => C3.out W3 own' hp)).mono ?_
   rintro e W4 ⟨rfl, p4, f4⟩
   have P4 := hid p4
   clear p4 f4 P3
   go_wp2
   go_ret2
   rw [HC.out]
   exact ⟨rfl, P4.out.done⟩
 ·have he2 : ((c1 : Int) == 0) = false := by simp; omega
  have he3 : ((c1 : Int) != 0) = true := by simp; omega
  rw [if_neg hc1] at HC
  go_wp2
  go_ret2
  rw [HC.out]
  exact ⟨rfl, P2.out.done⟩
end
end Go.Proofs.YtlpececggkdhmaaGreat
