import Derived.Test.YtlpececggkdhmaaGreatM16
import Derived.Test.YtlpececggkdhmaaGreatM23
import Derived.Test.YtlpececggkdhmaaGreatM24
import Derived.Test.YtlpececggkdhmaaGreatM26
open Go.Lib (hid)
set_option linter.unusedVariables false
set_option linter.unusedSimpArgs false
namespace Go.Proofs.YtlpececggkdhmaaGreat
section
open Go.RowKit Ino Go.Maps
theorem bal {a w : World} (h : Below a.heap.size a w) (o : Obj) : Below a.heap.size a (w.alloc o) := h.alloc h.size o
theorem bel1 (w : World) (o : Obj) : Below w.heap.size w (w.alloc o) := bal (Below.refl _ w) o
theorem bel2 (w : World) (o p : Obj) : Below w.heap.size w ((w.alloc o).alloc p) := bal (bel1 w o) p
theorem bel3 (w : World) (o p q : Obj) : Below w.heap.size w (((w.alloc o).alloc p).alloc q) := bal (bel2 w o p) q
theorem bnext {a b c : World} (h : Below a.heap.size a b) (k : Below b.heap.size b c) : Below a.heap.size a c := h.trans (k.mono h.size)
theorem top_cell (w : World) (cs : Array Value) (t : TypeId) {j : Nat} {v : Value} (h : cs[j]? = some v) : (w.alloc (.cells cs t)).cell? ⟨w.heap.size, j, none⟩ = some v := by
 rw [cell_of_row _ w.heap.size j _ _ (0, 0) (heap_alloc_new w _)]
 exact h
theorem top_cell1 (w : World) (o : Obj) (cs : Array Value) (t : TypeId) {j : Nat} {v : Value} (h : cs[j]? = some v) : ((w.alloc o).alloc (.cells cs t)).cell? ⟨w.heap.size + 1, j, none⟩ = some v := by
 have := top_cell (w.alloc o) cs t h
 rwa [show (w.alloc o).heap.size = w.heap.size + 1 by simp] at this
theorem al_cell {w : World} {o : Obj} {g j : Nat} {v : Value} (h : w.cell? ⟨g, j, none⟩ = some v) : (w.alloc o).cell? ⟨g, j, none⟩ = some v := ((bel1 w o).cell (p := ⟨g, j, none⟩) (cell_lt h)).trans h
theorem wcallerOf_any (A : Nat) (cwd r u s k g : Int) (w : World) :
 Calls Tryz.prog 54 #[.pointer (some ⟨A, 0, none⟩), .int .i64 cwd, .agg #[.int .i64 r, .int .i64 u, .int .i64 s, .int .i64 k, .int .i64 g]] w fun e w' => e = .returned (.agg #[.pointer (some ⟨A, 0, none⟩), .int .i64 cwd, .int .i64 u, .int .i64 g]) ∧ Below w.heap.size w w' := by
 go_enter Tryz.func54, Tryz.ntmps54
 go_wp2
 exact bodyPost_ret (v := (.agg #[.pointer (some ⟨A, 0, none⟩), .int .i64 cwd, .int .i64 u, .int .i64 g])) (by simp [results, Tryz.results54, go_sem]) rfl ⟨rfl, bel2 _ _ _⟩
theorem wisDir_any (a : Inf) (w : World) :
 Calls Tryz.prog 64 #[(.agg #[.int .i64 a.ino, .int .i64 a.kind, .int .i64 a.mode, .int .i64 a.owner, .int .i64 a.group, .int .i64 a.links, .int .i64 a.size, .int .i64 a.tty])] w fun e w' => e = .returned (.bool (a.kind == 1)) ∧ Below w.heap.size w w' := by
 go_enter Tryz.func64, Tryz.ntmps64
 go_wp2
 go_ret
 exact ⟨rfl, bel1 _ _⟩
theorem wisZero_any (A : Nat) (cwd u g : Int) (w : World) :
 Calls Tryz.prog 73 #[(.agg #[.pointer (some ⟨A, 0, none⟩), .int .i64 cwd, .int .i64 u, .int .i64 g])] w fun e w' => e = .returned (.bool (u == 0)) ∧ Below w.heap.size w w' := by
 go_enter Tryz.func73, Tryz.ntmps73
 go_wp2
 go_ret
 exact ⟨rfl, bel1 _ _⟩
theorem wowns_any (A : Nat) (cwd u g : Int) (a : Inf) (w : World) :
 Calls Tryz.prog 74 #[(.agg #[.pointer (some ⟨A, 0, none⟩), .int .i64 cwd, .int .i64 u, .int .i64 g]), (.agg #[.int .i64 a.ino, .int .i64 a.kind, .int .i64 a.mode, .int .i64 a.owner, .int .i64 a.group, .int .i64 a.links, .int .i64 a.size, .int .i64 a.tty])] w fun e w' => e = .returned (.bool (u == a.owner)) ∧ Below w.heap.size w w' := by
 go_enter Tryz.func74, Tryz.ntmps74
 go_wp2
 go_ret
 exact ⟨rfl, bel2 _ _ _⟩
def mayA (a : Inf) (u g want : Int) : Bool := Mo.mayB a.mode a.owner a.group (a.kind == 1) u g want
set_option maxHeartbeats 1000000 in
theorem wmay_any (A : Nat) (cwd u g want : Int) (a : Inf) (w : World) :
 Calls Tryz.prog 67 #[(.agg #[.pointer (some ⟨A, 0, none⟩), .int .i64 cwd, .int .i64 u, .int .i64 g]), (.agg #[.int .i64 a.ino, .int .i64 a.kind, .int .i64 a.mode, .int .i64 a.owner, .int .i64 a.group, .int .i64 a.links, .int .i64 a.size, .int .i64 a.tty]), .int .i64 want] w fun e w' => e = .returned (.bool (mayA a u g want)) ∧ Below w.heap.size w w' := by
 have C1 := hid (fun w => wisDir_any a w)
 have C2 := hid (fun w => Mo.may_any a.mode a.owner a.group (a.kind == 1) u g want w)
 have Hr := hid (show mayA a u g want = Mo.mayB a.mode a.owner a.group (a.kind == 1) u g want from rfl)
 generalize mayA a u g want = r at Hr ⊢
 obtain ⟨a0, a1, a2, a3, a4, a5, a6, a7⟩ := a
 simp only at C1 C2 Hr
 go_enter Tryz.func67, Tryz.ntmps67
 go_wp2_with fail
 generalize hw1 : ((w.alloc (.cells #[.pointer (some ⟨A, 0, none⟩), .int .i64 cwd, .int .i64 u, .int .i64 g] 102)).alloc (.cells #[.int .i64 a0, .int .i64 a1, .int .i64 a2, .int .i64 a3, .int .i64 a4, .int .i64 a5, .int .i64 a6, .int .i64 a7] 50)) = w1
 have hb1 : Below w.heap.size w w1 := by rw [← hw1]; exact bel2 _ _ _
 have d0 : w1.cell? ⟨w.heap.size, 2, none⟩ = some (.int .i64 u) := by rw [← hw1]; exact al_cell (top_cell w _ _ rfl)
 have d1 : w1.cell? ⟨w.heap.size, 3, none⟩ = some (.int .i64 g) := by rw [← hw1]; exact al_cell (top_cell w _ _ rfl)
 have x0 : w1.cell? ⟨w.heap.size + 1, 0, none⟩ = some (.int .i64 a0) := by rw [← hw1]; exact top_cell1 w _ _ _ rfl
 have x1 : w1.cell? ⟨w.heap.size + 1, 1, none⟩ = some (.int .i64 a1) := by rw [← hw1]; exact top_cell1 w _ _ _ rfl
 have x2 : w1.cell? ⟨w.heap.size + 1, 2, none⟩ = some (.int .i64 a2) := by rw [← hw1]; exact top_cell1 w _ _ _ rfl
 have x3 : w1.cell? ⟨w.heap.size + 1, 3, none⟩ = some (.int .i64 a3) := by rw [← hw1]; exact top_cell1 w _ _ _ rfl
 have x4 : w1.cell? ⟨w.heap.size + 1, 4, none⟩ = some (.int .i64 a4) := by rw [← hw1]; exact top_cell1 w _ _ _ rfl
 have x5 : w1.cell? ⟨w.heap.size + 1, 5, none⟩ = some (.int .i64 a5) := by rw [← hw1]; exact top_cell1 w _ _ _ rfl
 have x6 : w1.cell? ⟨w.heap.size + 1, 6, none⟩ = some (.int .i64 a6) := by rw [← hw1]; exact top_cell1 w _ _ _ rfl
 have x7 : w1.cell? ⟨w.heap.size + 1, 7, none⟩ = some (.int .i64 a7) := by rw [← hw1]; exact top_cell1 w _ _ _ rfl
 clear hw1
 have e0 := Pa.up_cell d0
 have e1 := Pa.up_cell d1
 have y0 := Pa.up_cell x0
 have y1 := Pa.up_cell x1
 have y2 := Pa.up_cell x2
 have y3 := Pa.up_cell x3
 have y4 := Pa.up_cell x4
 have y5 := Pa.up_cell x5
 have y6 := Pa.up_cell x6
 have y7 := Pa.up_cell x7
 clear d0 d1 x0 x1 x2 x3 x4 x5 x6 x7
 refine Pa.wp_region_up (by kernel_rfl) (by kernel_rfl) ?_
 repeat (go_big_quiet_step ((first | (go_at_call 64; refine Pa.Calls.up_of (C1.out _)) | (go_at_call 58; refine Pa.Calls.up_of_eq (C2.out _)))))
 refine wpQuiet_nil ?_
 intro _ hw'
 obtain ⟨pq, hw''⟩ := hw'
 subst hw''
 have hbq := bnext hb1 pq.le
 generalize pq.w = wq at hbq ⊢
 go_wp2
 go_ret
 exact ⟨ret_bool Hr.out.symm, hbq⟩
end
section
open Go.RowKit Ino Go.Maps
open Pa (Blk Blk.new Blk.alloc)
theorem calls_world {P : Program} {f : FuncId} {args : Array Value} {W : World} {Q : Ending → World → Prop} (J : World → Prop) (hJ : J W) (h : ∀ W', J W' → Calls P f args W' Q) : Calls P f args W Q := h W hJ
theorem code_world {P : Program} {c : Code} {Q : Exit → Act → World → Prop} {a : Act} {W : World} (J : World → Prop) (hJ : J W) (h : ∀ W', J W' → c.wp P Q a W') : c.wp P Q a W := h W hJ
variable {W W' : World} {G : Nat} {T : TypeId}
theorem Pa.Blk.c1 {a : Value} (h : Blk W G T #[a]) : W.cell? ⟨G, 0, none⟩ = some a := h.cell 0
theorem Pa.Blk.c3 {a b c : Value} (h : Blk W G T #[a, b, c]) : W.cell? ⟨G, 0, none⟩ = some a ∧ W.cell? ⟨G, 1, none⟩ = some b ∧ W.cell? ⟨G, 2, none⟩ = some c := ⟨h.cell 0, h.cell 1, h.cell 2⟩
theorem Pa.Blk.c4 {a b c d : Value} (h : Blk W G T #[a, b, c, d]) : W.cell? ⟨G, 0, none⟩ = some a ∧ W.cell? ⟨G, 1, none⟩ = some b ∧ W.cell? ⟨G, 2, none⟩ = some c ∧ W.cell? ⟨G, 3, none⟩ = some d := ⟨h.cell 0, h.cell 1, h.cell 2, h.cell 3⟩
theorem Pa.Blk.c8 {a b c d e f g i : Value} (h : Blk W G T #[a, b, c, d, e, f, g, i]) : W.cell? ⟨G, 0, none⟩ = some a ∧ W.cell? ⟨G, 1, none⟩ = some b ∧ W.cell? ⟨G, 2, none⟩ = some c ∧ W.cell? ⟨G, 3, none⟩ = some d ∧ W.cell? ⟨G, 4, none⟩ = some e ∧ W.cell? ⟨G, 5, none⟩ = some f ∧ W.cell? ⟨G, 6, none⟩ = some g ∧ W.cell? ⟨G, 7, none⟩ = some i :=
 ⟨h.cell 0, h.cell 1, h.cell 2, h.cell 3, h.cell 4, h.cell 5, h.cell 6, h.cell 7⟩
theorem Pa.Blk.f4 {cs : Array Value} (h : Blk W G T cs) : W.frozen? ⟨G, 0, none⟩ = false ∧ W.frozen? ⟨G, 1, none⟩ = false ∧ W.frozen? ⟨G, 2, none⟩ = false ∧ W.frozen? ⟨G, 3, none⟩ = false := ⟨h.frozen 0, h.frozen 1, h.frozen 2, h.frozen 3⟩
theorem Pa.Blk.f8 {cs : Array Value} (h : Blk W G T cs) : W.frozen? ⟨G, 0, none⟩ = false ∧ W.frozen? ⟨G, 1, none⟩ = false ∧ W.frozen? ⟨G, 2, none⟩ = false ∧ W.frozen? ⟨G, 3, none⟩ = false ∧ W.frozen? ⟨G, 4, none⟩ = false ∧ W.frozen? ⟨G, 5, none⟩ = false ∧ W.frozen? ⟨G, 6, none⟩ = false ∧ W.frozen? ⟨G, 7, none⟩ = false :=
 ⟨h.frozen 0, h.frozen 1, h.frozen 2, h.frozen 3, h.frozen 4, h.frozen 5, h.frozen 6, h.frozen 7⟩
theorem Pa.Blk.up {cs : Array Value} (h : Blk W G T cs) (b : Below W.heap.size W W') : Blk W' G T cs := h.below b h.lt
theorem blk1 (w : World) (o : Obj) (T : TypeId) (cs : Array Value) : Blk ((w.alloc o).alloc (.cells cs T)) (w.heap.size + 1) T cs := by
 have := Blk.new (w.alloc o) T cs
 rwa [World.size_alloc] at this
theorem blk2 (w : World) (o o' : Obj) (T : TypeId) (cs : Array Value) : Blk (((w.alloc o).alloc o').alloc (.cells cs T)) (w.heap.size + 1 + 1) T cs := by
 have := blk1 (w.alloc o) o' T cs
 rwa [World.size_alloc] at this
def infC (a : Inf) : Array Value := #[.int .i64 a.ino, .int .i64 a.kind, .int .i64 a.mode, .int .i64 a.owner, .int .i64 a.group, .int .i64 a.links, .int .i64 a.size, .int .i64 a.tty]
def calC (A : Nat) (cwd u g : Int) : Array Value := #[.pointer (some ⟨A, 0, none⟩), .int .i64 cwd, .int .i64 u, .int .i64 g]
theorem set8 {a0 a1 a2 a3 a4 a5 a6 a7 : Value} (h : Blk W G T #[a0, a1, a2, a3, a4, a5, a6, a7]) (b0 b1 b2 b3 b4 b5 b6 b7 : Value) :
 Blk ((((((((W.setCell ⟨G, 0, none⟩ b0).setCell ⟨G, 1, none⟩ b1).setCell ⟨G, 2, none⟩ b2).setCell ⟨G, 3, none⟩ b3).setCell ⟨G, 4, none⟩ b4).setCell ⟨G, 5, none⟩ b5).setCell ⟨G, 6, none⟩ b6).setCell ⟨G, 7, none⟩ b7) G T #[b0, b1, b2, b3, b4, b5, b6, b7] := by
 have h1 : Blk (W.setCell ⟨G, 0, none⟩ b0) G T #[b0, a1, a2, a3, a4, a5, a6, a7] := h.set 0 b0
 have h2 : Blk ((W.setCell ⟨G, 0, none⟩ b0).setCell ⟨G, 1, none⟩ b1) G T #[b0, b1, a2, a3, a4, a5, a6, a7] := h1.set 1 b1
 have h3 : Blk (((W.setCell ⟨G, 0, none⟩ b0).setCell ⟨G, 1, none⟩ b1).setCell ⟨G, 2, none⟩ b2) G T #[b0, b1, b2, a3, a4, a5, a6, a7] := h2.set 2 b2
 have h4 : Blk ((((W.setCell ⟨G, 0, none⟩ b0).setCell ⟨G, 1, none⟩ b1).setCell ⟨G, 2, none⟩ b2).setCell ⟨G, 3, none⟩ b3) G T #[b0, b1, b2, b3, a4, a5, a6, a7] := h3.set 3 b3
 have h5 : Blk (((((W.setCell ⟨G, 0, none⟩ b0).setCell ⟨G, 1, none⟩ b1).setCell ⟨G, 2, none⟩ b2).setCell ⟨G, 3, none⟩ b3).setCell ⟨G, 4, none⟩ b4) G T #[b0, b1, b2, b3, b4, a5, a6, a7] := h4.set 4 b4
 have h6 : Blk ((((((W.setCell ⟨G, 0, none⟩ b0).setCell ⟨G, 1, none⟩ b1).setCell ⟨G, 2, none⟩ b2).setCell ⟨G, 3, none⟩ b3).setCell ⟨G, 4, none⟩ b4).setCell ⟨G, 5, none⟩ b5) G T #[b0, b1, b2, b3, b4, b5, a6, a7] := h5.set 5 b5
 have h7 : Blk (((((((W.setCell ⟨G, 0, none⟩ b0).setCell ⟨G, 1, none⟩ b1).setCell ⟨G, 2, none⟩ b2).setCell ⟨G, 3, none⟩ b3).setCell ⟨G, 4, none⟩ b4).setCell ⟨G, 5, none⟩ b5).setCell ⟨G, 6, none⟩ b6) G T #[b0, b1, b2, b3, b4, b5, b6, a7] := h6.set 6 b6
 have h8 : Blk ((((((((W.setCell ⟨G, 0, none⟩ b0).setCell ⟨G, 1, none⟩ b1).setCell ⟨G, 2, none⟩ b2).setCell ⟨G, 3, none⟩ b3).setCell ⟨G, 4, none⟩ b4).setCell ⟨G, 5, none⟩ b5).setCell ⟨G, 6, none⟩ b6).setCell ⟨G, 7, none⟩ b7) G T #[b0, b1, b2, b3, b4, b5, b6, b7] := h7.set 7 b7
 exact h8
theorem far8 {cs : Array Value} {G' : Nat} (h : Blk W G' T cs) (hne : G' ≠ G) (b0 b1 b2 b3 b4 b5 b6 b7 : Value) :
 Blk ((((((((W.setCell ⟨G, 0, none⟩ b0).setCell ⟨G, 1, none⟩ b1).setCell ⟨G, 2, none⟩ b2).setCell ⟨G, 3, none⟩ b3).setCell ⟨G, 4, none⟩ b4).setCell ⟨G, 5, none⟩ b5).setCell ⟨G, 6, none⟩ b6).setCell ⟨G, 7, none⟩ b7) G' T cs :=
 (((((((h.other G 0 b0 hne).other G 1 b1 hne).other G 2 b2 hne).other G 3 b3 hne).other G 4 b4 hne).other G 5 b5 hne).other G 6 b6 hne).other G 7 b7 hne
theorem bel8 {n : Nat} {w0 : World} (h : Below n w0 W) (hG : n ≤ G) (b0 b1 b2 b3 b4 b5 b6 b7 : Value) :
 Below n w0 ((((((((W.setCell ⟨G, 0, none⟩ b0).setCell ⟨G, 1, none⟩ b1).setCell ⟨G, 2, none⟩ b2).setCell ⟨G, 3, none⟩ b3).setCell ⟨G, 4, none⟩ b4).setCell ⟨G, 5, none⟩ b5).setCell ⟨G, 6, none⟩ b6).setCell ⟨G, 7, none⟩ b7) :=
 (((((((h.setCell (p := ⟨G, 0, none⟩) hG b0).setCell (p := ⟨G, 1, none⟩) hG b1).setCell (p := ⟨G, 2, none⟩) hG b2).setCell (p := ⟨G, 3, none⟩) hG b3).setCell (p := ⟨G, 4, none⟩) hG b4).setCell (p := ⟨G, 5, none⟩) hG b5).setCell (p := ⟨G, 6, none⟩) hG b6).setCell (p := ⟨G, 7, none⟩) hG b7
theorem res8 (fn : Func) (sa sb : Nat) (hfn : fn.results = #[.cell sa 50, .tmp sb]) {a0 a1 a2 a3 a4 a5 a6 a7 b : Value} (h : Blk W G T #[a0, a1, a2, a3, a4, a5, a6, a7]) (tmps : Array Value) (h1 : tmps.getD sa undef = .pointer (some ⟨G, 0, none⟩)) (h2 : tmps.getD sb undef = b) :
 (results fn tmps).run Tryz.prog W = .ok (.tuple #[.agg #[a0, a1, a2, a3, a4, a5, a6, a7], b]) W := by
 obtain ⟨c0, c1, c2, c3, c4, c5, c6, c7⟩ := h.c8
 simp only [Array.getD_eq_getD_getElem?] at h1 h2
 simp [results, hfn, go_sem, h1, h2, c0, c1, c2, c3, c4, c5, c6, c7]
end
end Go.Proofs.YtlpececggkdhmaaGreat
