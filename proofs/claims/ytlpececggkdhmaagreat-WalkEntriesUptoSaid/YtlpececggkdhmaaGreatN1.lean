import Derived.Test.YtlpececggkdhmaaGreatM30
import Derived.Test.YtlpececggkdhmaaGreatM26
open Go.Lib (hid)
open List renaming getElem?_cons_succ → jE
set_option linter.unusedVariables false
set_option linter.unusedSimpArgs false
set_option maxHeartbeats 4000000
set_option maxRecDepth 100000
namespace Go.Proofs.YtlpececggkdhmaaGreat
section
open Go.RowKit Ino Go.Maps
open Pa (Blk)
variable {P : Program} {W W' : World} {G : Nat} {T : TypeId}
def overArr (cs : Array Value) : Nat → List Value → Array Value
 | _, [] => cs
 | o, v :: r => overArr (cs.setIfInBounds o v) (o + 1) r
theorem overArr_get : ∀ (vs : List Value) (o : Nat) (cs : Array Value), o + vs.length ≤ cs.size → ∀ j, (overArr cs o vs)[j]? = if o ≤ j ∧ j < o + vs.length then vs[j - o]? else cs[j]?
 | [], o, cs, _, j => by rw [overArr, if_neg (by simp)]
 | v :: r, o, cs, h, j => by
  simp only [List.length_cons] at h
  rw [overArr, overArr_get r (o + 1) _ (by simp; omega) j]
  by_cases h1 : j = o
  ·subst h1
   rw [if_neg (by omega), if_pos (by simp), Nat.sub_self, Array.getElem?_setIfInBounds_self_of_lt (by omega)]; rfl
  ·by_cases h2 : o + 1 ≤ j ∧ j < o + 1 + r.length
   ·rw [if_pos h2, if_pos (by simp; omega), show j - o = (j - (o + 1)) + 1 by omega, jE]
   ·rw [if_neg h2, if_neg (by simp; omega), Array.getElem?_setIfInBounds_ne (by omega)]
theorem overArr_all (cs0 cs : Array Value) (h : cs0.size = cs.size) : overArr cs0 0 cs.toList = cs := by
 apply Array.ext_getElem?
 intro j
 rw [overArr_get _ _ _ (by simp [h]) j]
 by_cases hj : j < cs.size
 ·rw [if_pos (by simp; omega)]; simp
 ·rw [if_neg (by simp; omega), Array.getElem?_eq_none (by omega), Array.getElem?_eq_none (by omega)]
theorem blk_setCells : ∀ (vs : List Value) (o : Nat) (W : World) (cs : Array Value), Blk W G T cs → Blk (W.setCells G o vs) G T (overArr cs o vs)
 | [], _, _, _, h => h
 | v :: r, o, _, _, h => blk_setCells r (o + 1) _ _ (h.set o v)
theorem fr_setCells {S : Nat → Prop} {a : World} (hp : S G ∨ a.heap.size ≤ G) : ∀ (vs : List Value) (o : Nat) (b : World), Fr S a b → Fr S a (b.setCells G o vs)
 | [], _, _, h => h
 | v :: r, o, b, h => fr_setCells hp r (o + 1) _ (h.setCell (p := ⟨G, o, none⟩) hp v)
theorem Pa.Blk.fr {S : Nat → Prop} {cs : Array Value} (h : Blk W G T cs) (f : Fr S W W') (hn : ¬ S G) : Blk W' G T cs := (f.block G h.lt hn).trans h
def AggOf (P : Program) (ty : TypeId) (n : Nat) : Prop := (∀ w, (isAgg ty).run P w = .ok true w) ∧ ∀ w, (sizeOf ty).run P w = .ok n w
theorem wpList_loadAgg {w : World} {ops : Array Oper} {rest : List Oper} {o : Oper} {a : Act} {Q : Exit → Act → World → Prop} (hg : o.guard = none) (ty : TypeId) (x : Operand) (ho : o.op = .load ty x)
 (G : Nat) (T : TypeId) (cs : Array Value) (hx : a.eval x = .pointer (some ⟨G, 0, none⟩)) (hb : Blk w G T cs) (ht : AggOf P ty cs.size)
 (h : wpList P ops Q rest (a.put o.dst (.agg cs)) w) : wpList P ops Q (o :: rest) a w := by
 refine wpList_plain hg fun K hK => ?_
 have hl : (loadCells ⟨G, 0, none⟩ cs.size).run P w = .ok cs w := by
  have := run_loadCells_list (P := P) w ⟨G, 0, none⟩ cs.toList (fun j v hv => by
   rw [Addr.add_lit, Nat.zero_add, hb.cell j]
   simpa using hv)
  rw [Array.length_toList] at this
  exact this
 have hv : (loadVar ty ⟨G, 0, none⟩).run P w = .ok (.agg cs) w := by
  simp [loadVar, ht.1, ht.2, hl]
 unfold Oper.wp
 simp [execOp, ho, hx, Instr.loadAt, Instr.sureAddr, hv, asAddr, Result.andThen]
 exact hK _ _ h
theorem wpList_storeAgg {w : World} {ops : Array Oper} {rest : List Oper} {o : Oper} {a : Act} {Q : Exit → Act → World → Prop} (hg : o.guard = none) (ty : TypeId) (x y : Operand) (ho : o.op = .store ty x y) (hd : o.dst = none)
 (G : Nat) (T : TypeId) (cs0 cs : Array Value) (hx : a.eval x = .pointer (some ⟨G, 0, none⟩)) (hy : a.eval y = .agg cs) (hb : Blk w G T cs0) (hs : cs0.size = cs.size) (ht : AggOf P ty cs.size) (h1 : ∀ v ∈ cs.toList, v.oneCell' = true)
 (h : ∀ w', Blk w' G T cs → Fr (· = G) w w' → wpList P ops Q rest a w') : wpList P ops Q (o :: rest) a w := by
 refine wpList_plain hg fun K hK => ?_
 have hst := run_storeCells_cells (P := P) G 0 cs.toList 0 w (fun j hj => by
  rw [show (0 : Nat) + 0 + j = j by omega, hb.cell j]
  simp at hj
  simp; omega) (fun j hj => hb.frozen _) h1
 have hv : (storeVar ty ⟨G, 0, none⟩ (.agg cs)).run P w = .ok () (w.setCells G 0 cs.toList) := by
  simp [storeVar, Value.cells, ht.2, hst]
 have hB : Blk (w.setCells G 0 cs.toList) G T cs := by
  have := blk_setCells cs.toList 0 w cs0 hb
  rw [overArr_all _ _ hs] at this
  exact this
 have hF : Fr (· = G) w (w.setCells G 0 cs.toList) := fr_setCells (S := (· = G)) (.inl (by simp)) _ _ _ (Fr.refl _ _)
 unfold Oper.wp
 simp [execOp, ho, hx, hy, Instr.storeAt, Instr.sureAddr, hv, asAddr, Result.andThen]
 rw [Oper.upon_skip, hd]
 exact hK a _ (h _ hB hF)
theorem step_storeAgg {w : World} {ops : Array Oper} {o : Oper} {a : Act} {K : Act → World → Prop} {Q : Exit → Act → World → Prop} {E : Prop} (hg : o.guard = none) (ty : TypeId) (x y : Operand) (ho : o.op = .store ty x y) (hd : o.dst = none)
 (G : Nat) (T : TypeId) (cs0 cs : Array Value) (hx : a.eval x = .pointer (some ⟨G, 0, none⟩)) (hy : a.eval y = .agg cs) (hb : Blk w G T cs0) (hs : cs0.size = cs.size) (ht : AggOf P ty cs.size) (h1 : ∀ v ∈ cs.toList, v.oneCell' = true)
 (h : ∀ w', Blk w' G T cs → Fr (· = G) w w' → K a w') : if Region.wanted o (yielded ops a.tmps) = true then Oper.wp P o a w K Q else E := by
 have hw : Region.wanted o (yielded ops a.tmps) = true := by simp [Region.wanted, hg]
 rw [if_pos hw]
 have hst := run_storeCells_cells (P := P) G 0 cs.toList 0 w (fun j hj => by
  rw [show (0 : Nat) + 0 + j = j by omega, hb.cell j]
  simp at hj
  simp; omega) (fun j hj => hb.frozen _) h1
 have hv : (storeVar ty ⟨G, 0, none⟩ (.agg cs)).run P w = .ok () (w.setCells G 0 cs.toList) := by
  simp [storeVar, Value.cells, ht.2, hst]
 have hB : Blk (w.setCells G 0 cs.toList) G T cs := by
  have := blk_setCells cs.toList 0 w cs0 hb
  rw [overArr_all _ _ hs] at this
  exact this
 have hF : Fr (· = G) w (w.setCells G 0 cs.toList) := fr_setCells (S := (· = G)) (.inl (by simp)) _ _ _ (Fr.refl _ _)
 unfold Oper.wp
 simp [execOp, ho, hx, hy, Instr.storeAt, Instr.sureAddr, hv, asAddr, Result.andThen]
 rw [Oper.upon_skip, hd]
 exact h _ hB hF
theorem wpList_storePart {w : World} {ops : Array Oper} {rest : List Oper} {o : Oper} {a : Act} {Q : Exit → Act → World → Prop} (hg : o.guard = none) (ty : TypeId) (x y : Operand) (ho : o.op = .store ty x y) (hd : o.dst = none)
 (G off : Nat) (T : TypeId) (cs0 cs cs1 : Array Value) (hx : a.eval x = .pointer (some ⟨G, off, none⟩)) (hy : a.eval y = .agg cs) (hb : Blk w G T cs0) (hs : off + cs.size ≤ cs0.size) (ht : AggOf P ty cs.size) (h1 : ∀ v ∈ cs.toList, v.oneCell' = true) (hc : overArr cs0 off cs.toList = cs1)
 (h : ∀ w', Blk w' G T cs1 → Fr (· = G) w w' → wpList P ops Q rest a w') : wpList P ops Q (o :: rest) a w := by
 refine wpList_plain hg fun K hK => ?_
 have hst := run_storeCells_cells (P := P) G off cs.toList 0 w (fun j hj => by
  rw [Nat.add_zero, hb.cell (off + j)]
  simp at hj
  simp; omega) (fun j hj => hb.frozen _) h1
 have hv : (storeVar ty ⟨G, off, none⟩ (.agg cs)).run P w = .ok () (w.setCells G off cs.toList) := by
  simp [storeVar, Value.cells, ht.2, hst]
 have hB : Blk (w.setCells G off cs.toList) G T cs1 := by
  have := blk_setCells cs.toList off w cs0 hb
  rw [hc] at this
  exact this
 have hF : Fr (· = G) w (w.setCells G off cs.toList) := fr_setCells (S := (· = G)) (.inl (by simp)) _ _ _ (Fr.refl _ _)
 unfold Oper.wp
 simp [execOp, ho, hx, hy, Instr.storeAt, Instr.sureAddr, hv, asAddr, Result.andThen]
 rw [Oper.upon_skip, hd]
 exact hK a _ (h _ hB hF)
theorem aggInfo : AggOf Tryz.prog 50 8 := ⟨fun w => by kernel_rfl, fun w => by kernel_rfl⟩
theorem aggPlace : AggOf Tryz.prog 99 19 := ⟨fun w => by kernel_rfl, fun w => by kernel_rfl⟩
theorem one_all {cs : Array Value} (h : cs.toList.all (·.oneCell') = true) : ∀ v ∈ cs.toList, v.oneCell' = true := fun v hv => List.all_eq_true.1 h v hv
theorem resAgg (fn : Func) (sa sb : Nat) (ty : TypeId) (hfn : fn.results = #[.cell sa ty, .tmp sb]) {cs : Array Value} {b : Value} (h : Blk W G T cs) (ht : AggOf Tryz.prog ty cs.size) (tmps : Array Value) (h1 : tmps.getD sa undef = .pointer (some ⟨G, 0, none⟩)) (h2 : tmps.getD sb undef = b) :
 (results fn tmps).run Tryz.prog W = .ok (.tuple #[.agg cs, b]) W := by
 have hl : (loadCells ⟨G, 0, none⟩ cs.size).run Tryz.prog W = .ok cs W := by
  have := run_loadCells_list (P := Tryz.prog) W ⟨G, 0, none⟩ cs.toList (fun j v hv => by
   rw [Addr.add_lit, Nat.zero_add, h.cell j]
   simpa using hv)
  rw [Array.length_toList] at this
  exact this
 have hv : (loadVar ty ⟨G, 0, none⟩).run Tryz.prog W = .ok (.agg cs) W := by
  simp [loadVar, ht.1, ht.2, hl]
 simp only [Array.getD_eq_getD_getElem?] at h1 h2
 simp [results, hfn, h1, h2, hv, asAddr]
end
section
open Go.RowKit Ino Go.Maps
open Pa (Blk)
theorem wmayI_any (A : Nat) (cwd u g want : Int) (a : Inf) (w : World) :
 Calls Tryz.prog 67 #[(.agg #[.pointer (some ⟨A, 0, none⟩), .int .i64 cwd, .int .i64 u, .int .i64 g]), (.agg #[.int .i64 a.ino, .int .i64 a.kind, .int .i64 a.mode, .int .i64 a.owner, .int .i64 a.group, .int .i64 a.links, .int .i64 a.size, .int .i64 a.tty]), .int .i64 want] w fun e w' => e = .returned (.bool (mayI a u g want)) ∧ Below w.heap.size w w' := wmay_any A cwd u g want a w
theorem wmayLook_any (A : Nat) (cwd u g : Int) (a : Inf) (w : World) :
 Calls Tryz.prog 105 #[(.agg #[.pointer (some ⟨A, 0, none⟩), .int .i64 cwd, .int .i64 u, .int .i64 g]), (.agg #[.int .i64 a.ino, .int .i64 a.kind, .int .i64 a.mode, .int .i64 a.owner, .int .i64 a.group, .int .i64 a.links, .int .i64 a.size, .int .i64 a.tty])] w fun e w' => e = .returned (.int .i64 (lookX a u g)) ∧ Below w.heap.size w w' := by
 have C1 := hid (fun w => wisDir_any a w)
 have C2 := hid (fun w => wmayI_any A cwd u g 1 a w)
 have hL : lookX a u g = if (a.kind == 1) = true then (if mayI a u g 1 = true then 0 else 4) else 6 := by unfold lookX; simp
 generalize lookX a u g = r at *
 generalize mayI a u g 1 = m at *
 have HL := hid hL
 clear hL
 obtain ⟨a0, a1, a2, a3, a4, a5, a6, a7⟩ := a
 simp only at C1 C2 HL ⊢
 cases hk : (a1 == 1)
 ·rw [hk] at C1 HL
  have hr : r = 6 := HL.out
  subst hr
  clear hk HL
  go_enter Tryz.func105, Tryz.ntmps105
  go_wp2_with fail
  refine (C1.out _).mono ?_
  rintro e w2 ⟨rfl, b2⟩
  go_wp2
  go_ret
  exact ⟨rfl, (bel2 _ _ _).trans (b2.mono (bel2 _ _ _).size)⟩
 ·rw [hk] at C1 HL
  clear hk
  go_enter Tryz.func105, Tryz.ntmps105
  go_wp2_with fail
  refine calls_world (fun W => Blk W w.heap.size 102 (calC A cwd u g) ∧ Blk W (w.heap.size + 1) 50 #[.int .i64 a0, .int .i64 a1, .int .i64 a2, .int .i64 a3, .int .i64 a4, .int .i64 a5, .int .i64 a6, .int .i64 a7] ∧ Below w.heap.size w W) ⟨(Blk.new w _ _).alloc _, by have := Blk.new (w.alloc (.cells (calC A cwd u g) 102)) 50 #[.int .i64 a0, .int .i64 a1, .int .i64 a2, .int .i64 a3, .int .i64 a4, .int .i64 a5, .int .i64 a6, .int .i64 a7]; rwa [World.size_alloc] at this, bel2 _ _ _⟩ ?_
  rintro W ⟨k1, k2, b1⟩
  refine (C1.out _).mono ?_
  rintro e w2 ⟨rfl, b2⟩
  have k3 := k1.up b2
  have k4 := k2.up b2
  have b3 := bnext b1 b2
  clear k1 k2 b1 b2
  obtain ⟨c0, c1, c2, c3⟩ := k3.c4
  obtain ⟨d0, d1, d2, d3, d4, d5, d6, d7⟩ := k4.c8
  have B3 := hid b3
  clear k3 k4 b3
  go_wp2_with fail
  refine (C2.out _).mono ?_
  rintro e w3 ⟨rfl, b4⟩
  have B4 := hid (bnext B3.out b4)
  clear b4
  cases m
  ·have hr : r = 4 := HL.out
   subst hr
   clear HL
   go_wp2
   go_ret
   exact ⟨rfl, B4.out⟩
  ·have hr : r = 0 := HL.out
   subst hr
   clear HL
   go_wp2
   go_ret
   exact ⟨rfl, B4.out⟩
def Tr (A : Nat) (own : Nat → Prop) (t : T) (W : World) : Prop := PTo W A own t
def lookJ (t : T) (a : Inf) (n : Bs) : Inf × Bool := lookI t a.ino n
theorem wlook_any {own : Nat → Prop} {t : T} (A : Nat) (cwd u g : Int) (a : Inf) (s : ByteArray) (hs : s.size ≤ maxLen) (w : World) (h : PTo w A own t) (hsd : Sd t) :
 Calls Tryz.prog 106 #[(.agg #[.pointer (some ⟨A, 0, none⟩), .int .i64 cwd, .int .i64 u, .int .i64 g]), (.agg #[.int .i64 a.ino, .int .i64 a.kind, .int .i64 a.mode, .int .i64 a.owner, .int .i64 a.group, .int .i64 a.links, .int .i64 a.size, .int .i64 a.tty]), .string s] w fun e w' => e = .returned (infV (lookI t a.ino s.data.toList)) ∧ Below w.heap.size w w' := by
 have C1 := hid (fun w (hw : PTo w A own t) => plook_any a.ino s w hw hsd hs)
 have hL : lookI t a.ino s.data.toList = if (lookP t a.ino s.data.toList).2 = true then statP t (lookP t a.ino s.data.toList).1 else (noInf, false) := rfl
 have C2 := hid (fun w (hw : PTo w A own t) => pstat_any (lookP t a.ino s.data.toList).1 w hw hsd)
 generalize lookI t a.ino s.data.toList = r at hL ⊢
 generalize lookP t a.ino s.data.toList = q at *
 obtain ⟨x, ok⟩ := q
 obtain ⟨a0, a1, a2, a3, a4, a5, a6, a7⟩ := a
 have HL := hid hL
 simp only [lookV] at C1 C2 HL
 have H := hid h
 clear hL h
 have HN : ∀ W, Below w.heap.size w W → PTo W A own t := fun W hb => H.out.below hb
 have HN' := hid HN
 clear HN
 go_enter Tryz.func106, Tryz.ntmps106
 go_wp2_with fail
 refine calls_world (fun W => Blk W w.heap.size 102 (calC A cwd u g) ∧ Blk W (w.heap.size + 1) 50 #[.int .i64 a0, .int .i64 a1, .int .i64 a2, .int .i64 a3, .int .i64 a4, .int .i64 a5, .int .i64 a6, .int .i64 a7] ∧ Blk W (w.heap.size + 1 + 1) 50 (infC noInf) ∧ Below w.heap.size w W) ⟨((Blk.new w _ _).alloc _).alloc _, (blk1 w _ _ _).alloc _, blk2 w _ _ _ _, bel3 _ _ _ _⟩ ?_
 rintro W ⟨k1, k2, k3, b1⟩
 obtain ⟨c0, c1, c2, c3⟩ := k1.c4
 obtain ⟨d0, d1, d2, d3, d4, d5, d6, d7⟩ := k2.c8
 obtain ⟨r0, r1, r2, r3, r4, r5, r6, r7⟩ := k3.c8
 obtain ⟨f0, f1, f2, f3, f4, f5, f6, f7⟩ := k3.f8
 refine (C1.out W (HN'.out W b1)).mono ?_
 rintro e w' ⟨rfl, rfl⟩
 have K3 := hid k3
 have B1 := hid b1
 clear k1 k2 k3 b1
 cases ok
 ·rw [if_neg Bool.false_ne_true] at HL
  go_wp2
  rw [HL.out]
  exact bodyPost_ret (res8 Tryz.f106 6 7 rfl (set8 K3.out _ _ _ _ _ _ _ _) _ rfl rfl) rfl ⟨rfl, bel8 B1.out (by omega) _ _ _ _ _ _ _ _⟩
 ·rw [if_pos rfl] at HL
  go_wp2_with fail
  refine (C2.out W (HN'.out W B1.out)).mono ?_
  rintro e w2 ⟨rfl, b2⟩
  rw [← HL.out]
  have k4 := K3.out.up b2
  have b3 := bnext B1.out b2
  obtain ⟨r0, r1, r2, r3, r4, r5, r6, r7⟩ := k4.c8
  obtain ⟨f0, f1, f2, f3, f4, f5, f6, f7⟩ := k4.f8
  have K4 := hid k4
  have B4 := hid b3
  clear k4 b3 b2
  obtain ⟨⟨i0, i1, i2, i3, i4, i5, i6, i7⟩, ok2⟩ := r
  simp only [infV] at HL ⊢
  go_wp2
  exact bodyPost_ret (res8 Tryz.f106 6 7 rfl (set8 K4.out _ _ _ _ _ _ _ _) _ rfl rfl) rfl ⟨rfl, bel8 B4.out (by omega) _ _ _ _ _ _ _ _⟩
end
section
open Go.RowKit Ino Go.Maps
open Pa (Blk strV)
def InNames (W : World) (v : Value) (l : List Bs) : Prop := ∃ p cap, v = .slice p l.length cap ∧ l.length ≤ 1000 ∧ ∀ (j : Nat) (n : Bs), l[j]? = some n → n.length ≤ 1000 ∧ ∃ g off, p = some ⟨g, off, none⟩ ∧ W.cell? ⟨g, off + j, none⟩ = some (strV n)
theorem InNames.up {W W' : World} {v : Value} {l : List Bs} (h : InNames W v l) (b : Below W.heap.size W W') : InNames W' v l := by
 obtain ⟨p, cap, h1, h2, h3⟩ := h
 refine ⟨p, cap, h1, h2, fun j n hj => ?_⟩
 obtain ⟨k0, g, off, k1, k2⟩ := h3 j n hj
 exact ⟨k0, g, off, k1, (b.cell (p := ⟨g, off + j, none⟩) (cell_lt k2)).trans k2⟩
def resRel (w : World) (t : T) (A : Nat) (cwd u g : Int) (l : List Bs) (r : Inf × Nat) (G2 : Nat) (iv : Value) (W : World) : Prop :=
 ∃ (k : Nat) (a : Inf), iv = .int .i64 k ∧ k ≤ l.length ∧ resI t u g a (l.drop k) = r ∧ Blk W w.heap.size 102 (calC A cwd u g) ∧ Blk W (w.heap.size + 1) 50 (infC noInf) ∧ Blk W G2 50 (infC a) ∧ Below w.heap.size w W
def infAg (a : Inf) : Value := .agg (infC a)
def ansV (r : Inf × Nat) : Value := .tuple #[infAg r.1, .int .i64 r.2]
theorem wresolve_any {own : Nat → Prop} {t : T} (A : Nat) (cwd u g : Int) (abs : Bool) (v : Value) (l : List Bs) (w : World) (h : PTo w A own t) (hsd : Sd t) (hv : InNames w v l) :
 Calls Tryz.prog 104 #[(.agg #[.pointer (some ⟨A, 0, none⟩), .int .i64 cwd, .int .i64 u, .int .i64 g]), .bool abs, v] w fun e w' => e = .returned (ansV (resP t cwd u g abs l)) ∧ Below w.heap.size w w' := by
 obtain ⟨p, cap, rfl, hl, hn⟩ := hv
 have hP : resP t cwd u g abs l = if (statP t (startI cwd abs)).2 = true then resI t u g (statP t (startI cwd abs)).1 l else (noInf, 3) := rfl
 have C1 := hid (fun w (hw : PTo w A own t) => pstat_any (startI cwd abs) w hw hsd)
 have HPT := hid (fun W (hb : Below w.heap.size w W) => h.below hb)
 have HN := hid hn
 generalize resP t cwd u g abs l = r at hP ⊢
 have hst : startI cwd abs = if abs = true then 1 else cwd := rfl
 generalize statP t (startI cwd abs) = q at hP C1
 generalize startI cwd abs = st at *
 obtain ⟨⟨i0, i1, i2, i3, i4, i5, i6, i7⟩, ok⟩ := q
 simp only [infV] at C1
 have HP := hid hP
 have HST := hid hst
 clear hP h hn hst
 cases abs
 all_goals
  have hst2 := HST.out
  simp only [Bool.false_eq_true, if_false, if_true] at hst2
  obtain rfl := hst2.symm
  go_enter Tryz.func104, Tryz.ntmps104
  go_wp2_with fail
  refine calls_world (fun W => Blk W w.heap.size 102 (calC A cwd u g) ∧ Blk W (w.heap.size + 1) 50 (infC noInf) ∧ Below w.heap.size w W) ⟨(Blk.new w _ _).alloc _, blk1 w _ _ _, bel2 _ _ _⟩ ?_
  rintro W ⟨k1, k2, b1⟩
  refine (C1.out W (HPT.out W b1)).mono ?_
  rintro e W2 ⟨rfl, b2⟩
  have k1 := k1.up b2
  have k2 := k2.up b2
  have b1 := bnext b1 b2
  obtain ⟨c0, c1, c2, c3⟩ := k1.c4
  obtain ⟨r0, r1, r2, r3, r4, r5, r6, r7⟩ := k2.c8
  obtain ⟨f0, f1, f2, f3, f4, f5, f6, f7⟩ := k2.f8
  have hz : w.heap.size + 1 < W2.heap.size := k2.lt
  have K1 := hid k1
  have K2 := hid k2
  have B1 := hid b1
  clear b2 C1 k1 k2 b1
  cases ok
  ·have hr : r = (noInf, 3) := HP.out
   subst hr
   clear HP HN
   go_wp2
   exact bodyPost_ret (res8 Tryz.f104 6 7 rfl ((set8 K2.out _ _ _ _ _ _ _ _).alloc _) _ rfl rfl) rfl ⟨rfl, bal (bel8 B1.out (by omega) _ _ _ _ _ _ _ _) _⟩
  ·have hr : r = resI t u g ⟨i0, i1, i2, i3, i4, i5, i6, i7⟩ l := HP.out
   have HR := hid hr
   clear HP hr
   go_wp2
   obtain ⟨G2, hG2⟩ : ∃ G2, G2 = W2.heap.size := ⟨_, rfl⟩
   have J0 : resRel w t A cwd u g l r G2 (.int .i64 ((0 : Nat) : Int)) (W2.alloc (.cells (infC ⟨i0, i1, i2, i3, i4, i5, i6, i7⟩) 50)) :=
    ⟨0, _, rfl, Nat.zero_le _, HR.out.symm, K1.out.alloc _, K2.out.alloc _, by rw [hG2]; exact Blk.new _ _ _, B1.out.alloc (by omega) _⟩
   have hz2 : w.heap.size + 1 < G2 := by rw [hG2]; exact hz
   rw [← hG2]
   have J := hid J0
   clear HR K1 K2 B1 hz J0 hG2 c0 c1 c2 c3 r0 r1 r2 r3 r4 r5 r6 r7 f0 f1 f2 f3 f4 f5 f6 f7 HST
   go_loopw [29] (fun iv wr => resRel w t A cwd u g l r G2 iv wr) (fun iv _ => l.length - (intOf iv).toNat)
   case atStart => exact J.out
   case round =>
    obtain ⟨k, ⟨a0, a1, a2, a3, a4, a5, a6, a7⟩, rfl, hk, hr, k1, k2, k3, b1⟩ := hrel
    clear J
    obtain ⟨c0, c1, c2, c3⟩ := k1.c4
    obtain ⟨d0, d1, d2, d3, d4, d5, d6, d7⟩ := k3.c8
    have hG2 := k3.lt
    have K1 := hid k1
    have K2 := hid k2
    have K3 := hid k3
    have B1 := hid b1
    by_cases hlt : k < l.length
    ·obtain ⟨n, hn⟩ : ∃ n, l[k]? = some n := ⟨_, List.getElem?_eq_getElem hlt⟩
     obtain ⟨hns, g0, o0, rfl, hc⟩ := HN.out k n hn
     have hg0 : g0 < w.heap.size := cell_lt hc
     have e0 : wr.cell? ⟨g0, o0 + k, none⟩ = some (strV n) := (b1.cell (p := ⟨g0, o0 + k, none⟩) hg0).trans hc
     unfold strV at e0
     have hd : l.drop k = n :: l.drop (k + 1) := by
      rw [List.drop_eq_getElem_cons hlt]
      rw [List.getElem?_eq_getElem hlt] at hn
      rw [Option.some.inj hn]
     rw [hd] at hr
     have hr2 : r = if lookX ⟨a0, a1, a2, a3, a4, a5, a6, a7⟩ u g = 0 then (if (lookI t a0 n).2 = true then resI t u g (lookI t a0 n).1 (l.drop (k + 1)) else (noInf, 3)) else (noInf, lookX ⟨a0, a1, a2, a3, a4, a5, a6, a7⟩ u g) := hr.symm
     have C2 := hid (fun w => wmayLook_any A cwd u g ⟨a0, a1, a2, a3, a4, a5, a6, a7⟩ w)
     have hsz : (⟨n.toArray⟩ : ByteArray).size ≤ maxLen := by show n.length ≤ maxLen; unfold maxLen; omega
     have C3 := hid (fun w (hw : PTo w A own t) => wlook_any A cwd u g ⟨a0, a1, a2, a3, a4, a5, a6, a7⟩ ⟨n.toArray⟩ hsz w hw hsd)
     have i1 : (0 : Int) ≤ (k : Int) := by omega
     have i2 : (k : Int) < l.length := by omega
     have HR := hid hr2
     clear hr hr2 hn hc hd k1 k2 k3 b1 hns hsz
     generalize lookX ⟨a0, a1, a2, a3, a4, a5, a6, a7⟩ u g = er at HR C2
     generalize hlk : lookI t a0 n = lk at HR
     have C3 : Hid (∀ w, PTo w A own t → Calls Tryz.prog 106 #[(.agg #[.pointer (some ⟨A, 0, none⟩), .int .i64 cwd, .int .i64 u, .int .i64 g]), (.agg #[.int .i64 a0, .int .i64 a1, .int .i64 a2, .int .i64 a3, .int .i64 a4, .int .i64 a5, .int .i64 a6, .int .i64 a7]), .string ⟨n.toArray⟩] w fun e w' => e = .returned (infV lk) ∧ Below w.heap.size w w') := hid (by rw [← hlk]; exact C3.out)
     clear hlk
     obtain ⟨⟨m0, m1, m2, m3, m4, m5, m6, m7⟩, ok⟩ := lk
     simp only [infV] at C3
     generalize (⟨n.toArray⟩ : ByteArray) = ns at *
     go_wp2_with fail
     refine (C2.out _).mono ?_
     rintro e w2 ⟨rfl, b2⟩
     have k1 := K1.out.up b2
     have k2 := K2.out.up b2
     have k3 := K3.out.up b2
     have b3 := bnext B1.out b2
     have hG3 : G2 < w2.heap.size := k3.lt
     clear b2 K1 K2 K3 B1 c0 c1 c2 c3 d0 d1 d2 d3 d4 d5 d6 d7 e0 C2
     obtain ⟨c0, c1, c2, c3⟩ := k1.c4
     obtain ⟨d0, d1, d2, d3, d4, d5, d6, d7⟩ := k3.c8
     obtain ⟨r0, r1, r2, r3, r4, r5, r6, r7⟩ := k2.c8
     obtain ⟨f0, f1, f2, f3, f4, f5, f6, f7⟩ := k2.f8
     have K1 := hid k1
     have K2 := hid k2
     have K3 := hid k3
     have B1 := hid b3
     clear k1 k2 k3 b3
     by_cases her : er = 0
     ·subst her
      rw [if_pos rfl] at HR
      go_wp2_with fail
      refine (C3.out _ (HPT.out _ B1.out)).mono ?_
      rintro e w3 ⟨rfl, b2⟩
      have k1 := K1.out.up b2
      have k2 := K2.out.up b2
      have k3 := K3.out.up b2
      have b3 := bnext B1.out b2
      have hG4 : G2 < w3.heap.size := k3.lt
      clear b2 K1 K2 K3 B1 c0 c1 c2 c3 d0 d1 d2 d3 d4 d5 d6 d7 r0 r1 r2 r3 r4 r5 r6 r7 f0 f1 f2 f3 f4 f5 f6 f7
      obtain ⟨d0, d1, d2, d3, d4, d5, d6, d7⟩ := k3.c8
      obtain ⟨r0, r1, r2, r3, r4, r5, r6, r7⟩ := k2.c8
      obtain ⟨f0, f1, f2, f3, f4, f5, f6, f7⟩ := k2.f8
      obtain ⟨z0, z1, z2, z3, z4, z5, z6, z7⟩ := k3.f8
      have K1 := hid k1
      have K2 := hid k2
      have K3 := hid k3
      have B1 := hid b3
      clear k1 k2 k3 b3
      cases ok
      ·rw [if_neg Bool.false_ne_true] at HR
       go_wp2
       rw [HR.out]
       exact bodyPost_ret (res8 Tryz.f104 6 7 rfl (set8 (far8 K2.out (by omega) _ _ _ _ _ _ _ _) _ _ _ _ _ _ _ _) _ rfl rfl) rfl ⟨rfl, bel8 (bel8 B1.out (by omega) _ _ _ _ _ _ _ _) (by omega) _ _ _ _ _ _ _ _⟩
      ·rw [if_pos rfl] at HR
       go_wp2
       go_roundw
       case rel => exact ⟨k + 1, ⟨m0, m1, m2, m3, m4, m5, m6, m7⟩, by go_num, by omega, HR.out.symm, far8 K1.out (by omega) _ _ _ _ _ _ _ _, far8 K2.out (by omega) _ _ _ _ _ _ _ _, set8 K3.out _ _ _ _ _ _ _ _, bel8 B1.out (by omega) _ _ _ _ _ _ _ _⟩
       case measure => simp [intOf]; omega
     ·have her2 : ((er : Int) == 0) = false := by simp; omega
      have her3 : ((er : Int) != 0) = true := by simp; omega
      rw [if_neg her] at HR
      go_wp2
      rw [HR.out]
      exact bodyPost_ret (res8 Tryz.f104 6 7 rfl (set8 K2.out _ _ _ _ _ _ _ _) _ rfl rfl) rfl ⟨rfl, bel8 B1.out (by omega) _ _ _ _ _ _ _ _⟩
    ·obtain rfl : k = l.length := by omega
     rw [List.drop_length] at hr
     have hr2 : r = (⟨a0, a1, a2, a3, a4, a5, a6, a7⟩, 0) := hr.symm
     obtain ⟨r0, r1, r2, r3, r4, r5, r6, r7⟩ := k2.c8
     obtain ⟨f0, f1, f2, f3, f4, f5, f6, f7⟩ := k2.f8
     clear hr k1 k2 k3 b1 c0 c1 c2 c3
     subst hr2
     go_wp2
     exact bodyPost_ret (res8 Tryz.f104 6 7 rfl (set8 K2.out _ _ _ _ _ _ _ _) _ rfl rfl) rfl ⟨rfl, bel8 B1.out (by omega) _ _ _ _ _ _ _ _⟩
end
section
open Go.RowKit Ino Go.Maps
open Pa (Blk strV split_any splE nam dirP absP splN splAbs splDir)
theorem InNames.ofRow {W : World} {base : Nat} {v : Value} {l : List Bs} (h : W.ownsRow base 9 1 v l.length (l.map strV)) (hl : l.length ≤ 1000) (hn : ∀ n, n ∈ l → n.length ≤ 1000) : InNames W v l := by
 obtain ⟨a, cap, rfl⟩ := Pa.row_slice h
 refine ⟨a, cap, rfl, hl, fun j n hj => ⟨hn n (List.mem_of_getElem? hj), ?_⟩⟩
 have hjl := (List.getElem?_eq_some_iff.1 hj).1
 obtain ⟨g, rfl⟩ : ∃ g, a = some ⟨g, 0, none⟩ := by
  rcases h.2 with ⟨h1, h2⟩ | ⟨g, cap', cur, h1, _⟩
  ·have : l.length = 0 := by first | exact h1 | exact h2 | (simpa using h1) | (simpa using h2)
   omega
  ·cases h1; exact ⟨g, rfl⟩
 refine ⟨g, 0, rfl, ?_⟩
 rw [Nat.zero_add]
 have := h.cellAt j (by omega)
 rw [this, List.getElem?_map, hj]; rfl
theorem nam_small {s : Bs} (h : splE s = 0) : (nam s).length ≤ 1000 ∧ ∀ n, n ∈ nam s → n.length ≤ 1000 := by
 unfold splE at h
 by_cases h0 : s = []
 ·rw [if_pos h0] at h; cases h
 rw [if_neg h0] at h
 by_cases h1 : 128 < s.length
 ·rw [if_pos h1] at h; cases h
 rw [if_neg h1] at h
 by_cases h2 : Pa.anyLong s = true
 ·rw [if_pos h2] at h; cases h
 refine ⟨by have := Pa.len_nam s; omega, fun n hn => ?_⟩
 have h3 : (nam s).any Pa.longN = false := by rw [Pa.any_nam]; simpa using h2
 have := List.any_eq_false.1 h3 n hn
 unfold Pa.longN at this
 simp at this
 omega
theorem told_find {t : T} (h : Sd t) (cwd u g : Int) (l : Bs) : toldI t (findP t cwd u g l) = if splE l = 0 then (if (resP t cwd u g (splAbs l) (splN l)).2 = 0 then (if splDir l = true ∧ (resP t cwd u g (splAbs l) (splN l)).1.kind ≠ 1 then (noInf, 6) else ((resP t cwd u g (splAbs l) (splN l)).1, 0)) else (noInf, (resP t cwd u g (splAbs l) (splN l)).2)) else (noInf, splE l) := by
 unfold findP
 by_cases h1 : splE l = 0
 ·rw [if_pos h1, if_pos h1]
  have e1 : splAbs l = absP l := if_pos h1
  have e2 : splN l = nam l := if_pos h1
  have e3 : splDir l = dirP l := if_pos h1
  rw [e1, e2, e3, resP_eq h]
  generalize downP t cwd u g (absP l) (nam l) = d
  obtain ⟨x, er⟩ := d
  unfold toldI
  by_cases h2 : er = 0
  ·subst h2
   simp only [if_true]
   show _ = if dirP l = true ∧ (t x).kind ≠ 1 then _ else _
   by_cases h3 : dirP l = true ∧ (t x).kind ≠ 1
   ·rw [if_pos h3, if_pos h3]; rfl
   ·rw [if_neg h3, if_neg h3]; rfl
  ·simp only [if_neg h2]
 ·rw [if_neg h1, if_neg h1]
  unfold toldI
  rw [if_neg (show ¬ ((0, splE l) : Nat × Nat).2 = 0 from h1)]
theorem wfind_any {own : Nat → Prop} {t : T} (A : Nat) (cwd u g : Int) (s : ByteArray) (hs : s.size ≤ maxLen) (w : World) (h : PTo w A own t) (hsd : Sd t) :
 Calls Tryz.prog 61 #[(.agg #[.pointer (some ⟨A, 0, none⟩), .int .i64 cwd, .int .i64 u, .int .i64 g]), .string s] w fun e w' => e = .returned (ansV (toldI t (findP t cwd u g s.data.toList))) ∧ Below w.heap.size w w' := by
 have hR := told_find hsd cwd u g s.data.toList
 generalize toldI t (findP t cwd u g s.data.toList) = r at hR ⊢
 have HPT := hid (fun W (hb : Below w.heap.size w W) => h.below hb)
 have C1 := hid (fun W => split_any s hs W)
 have hsm : splE s.data.toList = 0 → (splN s.data.toList).length ≤ 1000 ∧ ∀ n, n ∈ splN s.data.toList → n.length ≤ 1000 := fun h => by
  rw [show splN s.data.toList = nam s.data.toList from if_pos h]
  exact nam_small h
 unfold Pa.SplitPost Pa.splitV at C1
 generalize splE s.data.toList = er at *
 generalize splAbs s.data.toList = ab at *
 generalize splDir s.data.toList = dr at *
 generalize splN s.data.toList = nl at *
 have HSM := hid hsm
 have HR := hid hR
 clear hR hsm h
 go_enter Tryz.func61, Tryz.ntmps61
 go_wp2_with fail
 refine calls_world (fun W => Blk W w.heap.size 102 (calC A cwd u g) ∧ Blk W (w.heap.size + 1) 50 (infC noInf) ∧ Below w.heap.size w W) ⟨(Blk.new w _ _).alloc _, blk1 w _ _ _, bel2 _ _ _⟩ ?_
 rintro W ⟨k1, k2, b1⟩
 refine (C1.out W).mono ?_
 rintro e W2 ⟨v, rfl, hrow, b2⟩
 obtain ⟨pa, pc, rfl⟩ := Pa.row_slice hrow
 have k1 := k1.up b2
 have k2 := k2.up b2
 have b1 := bnext b1 b2
 have hz : w.heap.size + 1 < W2.heap.size := k2.lt
 have hz0 : w.heap.size < W2.heap.size := k1.lt
 obtain ⟨c0, c1, c2, c3⟩ := k1.c4
 obtain ⟨r0, r1, r2, r3, r4, r5, r6, r7⟩ := k2.c8
 obtain ⟨f0, f1, f2, f3, f4, f5, f6, f7⟩ := k2.f8
 have K1 := hid k1
 have K2 := hid k2
 have B1 := hid b1
 have HRow := hid hrow
 clear b2 C1 k1 k2 b1 hrow
 by_cases he : er = 0
 ·subst he
  rw [if_pos rfl] at HR
  have HN := hid (InNames.ofRow HRow.out (HSM.out rfl).1 (HSM.out rfl).2)
  go_wp2_with fail
  obtain ⟨G2, hG2⟩ : ∃ G2, G2 = W2.heap.size := ⟨_, rfl⟩
  rw [← hG2]
  refine calls_world (fun W => Blk W w.heap.size 102 (calC A cwd u g) ∧ Blk W (w.heap.size + 1) 50 (infC noInf) ∧ Blk W G2 95 #[.bool ab, .slice pa nl.length pc, .bool dr] ∧ InNames W (.slice pa nl.length pc) nl ∧ Below w.heap.size w W) ⟨K1.out.alloc _, K2.out.alloc _, by rw [hG2]; exact Blk.new _ _ _, HN.out.up (bel1 _ _), bal B1.out _⟩ ?_
  rintro W3 ⟨k1, k2, k3, hn, b1⟩
  refine (wresolve_any A cwd u g ab _ nl W3 (HPT.out W3 b1) hsd hn).mono ?_
  rintro e W4 ⟨rfl, b2⟩
  have k1 := k1.up b2
  have k2 := k2.up b2
  have k3 := k3.up b2
  have b1 := bnext b1 b2
  clear K1 K2 B1 HN HRow b2 hn hz hz0 c0 c1 c2 c3 r0 r1 r2 r3 r4 r5 r6 r7 f0 f1 f2 f3 f4 f5 f6 f7 hG2
  have hz : w.heap.size + 1 < W4.heap.size := k2.lt
  have hz2 : G2 < W4.heap.size := k3.lt
  obtain ⟨p0, p1, p2⟩ := k3.c3
  obtain ⟨r0, r1, r2, r3, r4, r5, r6, r7⟩ := k2.c8
  obtain ⟨f0, f1, f2, f3, f4, f5, f6, f7⟩ := k2.f8
  have K2 := hid k2
  have B1 := hid b1
  clear k1 k2 k3 b1
  generalize resP t cwd u g ab nl = q at *
  obtain ⟨⟨q0, q1, q2, q3, q4, q5, q6, q7⟩, er⟩ := q
  simp only [ansV, infAg, infC] at HR ⊢
  by_cases her : er = 0
  ·subst her
   rw [if_pos rfl] at HR
   cases dr
   ·rw [if_neg (fun x => Bool.false_ne_true x.1)] at HR
    go_wp2
    rw [HR.out]
    exact bodyPost_ret (res8 Tryz.f61 4 5 rfl ((set8 K2.out _ _ _ _ _ _ _ _).alloc _) _ rfl rfl) rfl ⟨rfl, bal (bel8 B1.out (by omega) _ _ _ _ _ _ _ _) _⟩
   ·have C2 := hid (fun w => wisDir_any ⟨q0, q1, q2, q3, q4, q5, q6, q7⟩ w)
    simp only at C2
    have HR2 := hid (show r = if (q1 == 1) = true then (⟨q0, q1, q2, q3, q4, q5, q6, q7⟩, 0) else (noInf, 6) by
     rw [HR.out]
     by_cases hq : q1 = 1
     ·rw [if_neg (fun x => x.2 hq), if_pos (by simp [hq])]
     ·rw [if_pos ⟨rfl, hq⟩, if_neg (by simp [hq])])
    clear HR
    cases hq : (q1 == 1)
    ·rw [hq] at C2 HR2
     rw [if_neg Bool.false_ne_true] at HR2
     clear hq
     go_wp2_with fail
     obtain ⟨G3, hG3⟩ : ∃ G3, G3 = W4.heap.size := ⟨_, rfl⟩
     refine calls_world (fun W => Blk W (w.heap.size + 1) 50 (infC noInf) ∧ Below w.heap.size w W) ⟨K2.out.alloc _, bal B1.out _⟩ ?_
     rintro W5 ⟨k2, b1⟩
     refine (C2.out W5).mono ?_
     rintro e W6 ⟨rfl, b2⟩
     have k2 := k2.up b2
     have b1 := bnext b1 b2
     clear K2 B1 b2 r0 r1 r2 r3 r4 r5 r6 r7 f0 f1 f2 f3 f4 f5 f6 f7
     obtain ⟨r0, r1, r2, r3, r4, r5, r6, r7⟩ := k2.c8
     obtain ⟨f0, f1, f2, f3, f4, f5, f6, f7⟩ := k2.f8
     have K2 := hid k2
     have B1 := hid b1
     clear k2 b1
     go_wp2
     rw [HR2.out]
     exact bodyPost_ret (res8 Tryz.f61 4 5 rfl (set8 K2.out _ _ _ _ _ _ _ _) _ rfl rfl) rfl ⟨rfl, bel8 B1.out (by omega) _ _ _ _ _ _ _ _⟩
    ·rw [hq] at C2 HR2
     rw [if_pos rfl] at HR2
     clear hq
     go_wp2_with fail
     obtain ⟨G3, hG3⟩ : ∃ G3, G3 = W4.heap.size := ⟨_, rfl⟩
     rw [← hG3]
     refine calls_world (fun W => Blk W (w.heap.size + 1) 50 (infC noInf) ∧ Blk W G3 50 (infC ⟨q0, q1, q2, q3, q4, q5, q6, q7⟩) ∧ Below w.heap.size w W) ⟨K2.out.alloc _, by rw [hG3]; exact Blk.new _ _ _, bal B1.out _⟩ ?_
     rintro W5 ⟨k2, k3, b1⟩
     refine (C2.out W5).mono ?_
     rintro e W6 ⟨rfl, b2⟩
     have k2 := k2.up b2
     have k3 := k3.up b2
     have b1 := bnext b1 b2
     have hz4 : w.heap.size + 1 < G3 := by omega
     clear K2 B1 b2 r0 r1 r2 r3 r4 r5 r6 r7 f0 f1 f2 f3 f4 f5 f6 f7 hG3
     obtain ⟨r0, r1, r2, r3, r4, r5, r6, r7⟩ := k2.c8
     obtain ⟨f0, f1, f2, f3, f4, f5, f6, f7⟩ := k2.f8
     obtain ⟨d0, d1, d2, d3, d4, d5, d6, d7⟩ := k3.c8
     have K2 := hid k2
     have B1 := hid b1
     clear k2 k3 b1
     go_wp2
     rw [HR2.out]
     exact bodyPost_ret (res8 Tryz.f61 4 5 rfl (set8 K2.out _ _ _ _ _ _ _ _) _ rfl rfl) rfl ⟨rfl, bel8 B1.out (by omega) _ _ _ _ _ _ _ _⟩
  ·have her2 : ((er : Int) == 0) = false := by simp; omega
   have her3 : ((er : Int) != 0) = true := by simp; omega
   rw [if_neg her] at HR
   go_wp2
   rw [HR.out]
   exact bodyPost_ret (res8 Tryz.f61 4 5 rfl ((set8 K2.out _ _ _ _ _ _ _ _).alloc _) _ rfl rfl) rfl ⟨rfl, bal (bel8 B1.out (by omega) _ _ _ _ _ _ _ _) _⟩
 ·have he2 : ((er : Int) == 0) = false := by simp; omega
  have he3 : ((er : Int) != 0) = true := by simp; omega
  rw [if_neg he] at HR
  go_wp2
  rw [HR.out]
  exact bodyPost_ret (res8 Tryz.f61 4 5 rfl ((set8 K2.out _ _ _ _ _ _ _ _).alloc _) _ rfl rfl) rfl ⟨rfl, bal (bel8 B1.out (by omega) _ _ _ _ _ _ _ _) _⟩
end
end Go.Proofs.YtlpececggkdhmaaGreat
