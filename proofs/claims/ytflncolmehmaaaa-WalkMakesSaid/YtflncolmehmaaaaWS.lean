/- Whole structs: loaded from a block and stored into one, at one step of a walk. -/
import Derived.Test.YtflncolmehmaaaaM30
namespace Go.Proofs.Ytflncolmehmaaaa
open Go.RowKit Ino Go.Maps
open Pa (Blk)
set_option linter.unusedVariables false
set_option linter.unusedSimpArgs false
variable {P : Program} {W W' : World} {G : Nat} {T : TypeId}

def overArr (cs : Array Value) : Nat → List Value → Array Value
  | _, [] => cs
  | o, v :: r => overArr (cs.setIfInBounds o v) (o + 1) r
theorem overArr_get : ∀ (vs : List Value) (o : Nat) (cs : Array Value), o + vs.length ≤ cs.size → ∀ j, (overArr cs o vs)[j]? = if o ≤ j ∧ j < o + vs.length then vs[j - o]? else cs[j]?
  | [], o, cs, _, j => by rw [overArr, if_neg (by simp)]
  | v :: r, o, cs, h, j => by
    simp only [List.length_cons] at h
    rw [overArr, overArr_get r (o + 1) _ (by simp; omega) j]
    by_cases h1 : j = o
    · subst h1
      rw [if_neg (by omega), if_pos (by simp), Nat.sub_self, Array.getElem?_setIfInBounds_self_of_lt (by omega)]; rfl
    · by_cases h2 : o + 1 ≤ j ∧ j < o + 1 + r.length
      · rw [if_pos h2, if_pos (by simp; omega), show j - o = (j - (o + 1)) + 1 by omega, List.getElem?_cons_succ]
      · rw [if_neg h2, if_neg (by simp; omega), Array.getElem?_setIfInBounds_ne (by omega)]
theorem overArr_all (cs0 cs : Array Value) (h : cs0.size = cs.size) : overArr cs0 0 cs.toList = cs := by
  apply Array.ext_getElem?
  intro j
  rw [overArr_get _ _ _ (by simp [h]) j]
  by_cases hj : j < cs.size
  · rw [if_pos (by simp; omega)]; simp
  · rw [if_neg (by simp; omega), Array.getElem?_eq_none (by omega), Array.getElem?_eq_none (by omega)]
theorem blk_setCells : ∀ (vs : List Value) (o : Nat) (W : World) (cs : Array Value), Blk W G T cs → Blk (W.setCells G o vs) G T (overArr cs o vs)
  | [], _, _, _, h => h
  | v :: r, o, _, _, h => blk_setCells r (o + 1) _ _ (h.set o v)
theorem fr_setCells {S : Nat → Prop} {a : World} (hp : S G ∨ a.heap.size ≤ G) : ∀ (vs : List Value) (o : Nat) (b : World), Fr S a b → Fr S a (b.setCells G o vs)
  | [], _, _, h => h
  | v :: r, o, b, h => fr_setCells hp r (o + 1) _ (h.setCell (p := ⟨G, o, none⟩) hp v)
theorem Pa.Blk.fr {S : Nat → Prop} {cs : Array Value} (h : Blk W G T cs) (f : Fr S W W') (hn : ¬ S G) : Blk W' G T cs := (f.block G h.lt hn).trans h
/-- a struct of this type has these many cells. -/
def AggOf (P : Program) (ty : TypeId) (n : Nat) : Prop := (∀ w, (isAgg ty).run P w = .ok true w) ∧ ∀ w, (sizeOf ty).run P w = .ok n w
theorem wpList_loadAgg {w : World} {ops : Array Oper} {rest : List Oper} {o : Oper} {a : Act} {Q : Exit → Act → World → Prop} (hg : o.guard = none) (ty : TypeId) (x : Operand) (ho : o.op = .load ty x)
    (G : Nat) (T : TypeId) (cs : Array Value) (hx : a.eval x = .pointer (some ⟨G, 0, none⟩)) (hb : Blk w G T cs) (ht : AggOf P ty cs.size)
    (h : wpList P ops Q rest (a.put o.dst (.agg cs)) w) : wpList P ops Q (o :: rest) a w := by
  refine wpList_plain hg fun K hK => ?_
  have hl : (loadCells ⟨G, 0, none⟩ cs.size).run P w = .ok cs w := by
    have := run_loadCells_list (P := P) w ⟨G, 0, none⟩ cs.toList (fun j v hv => by
      rw [Addr.add_lit, Nat.zero_add, hb.cell j]
      simpa using hv)
    rw [Array.length_toList] at this
    exact this
  have hv : (loadVar ty ⟨G, 0, none⟩).run P w = .ok (.agg cs) w := by
    simp [loadVar, ht.1, ht.2, hl]
  unfold Oper.wp
  simp [execOp, ho, hx, Instr.loadAt, Instr.sureAddr, hv, asAddr, Result.andThen]
  exact hK _ _ h
theorem wpList_storeAgg {w : World} {ops : Array Oper} {rest : List Oper} {o : Oper} {a : Act} {Q : Exit → Act → World → Prop} (hg : o.guard = none) (ty : TypeId) (x y : Operand) (ho : o.op = .store ty x y) (hd : o.dst = none)
    (G : Nat) (T : TypeId) (cs0 cs : Array Value) (hx : a.eval x = .pointer (some ⟨G, 0, none⟩)) (hy : a.eval y = .agg cs) (hb : Blk w G T cs0) (hs : cs0.size = cs.size) (ht : AggOf P ty cs.size) (h1 : ∀ v ∈ cs.toList, v.oneCell' = true)
    (h : ∀ w', Blk w' G T cs → Fr (· = G) w w' → wpList P ops Q rest a w') : wpList P ops Q (o :: rest) a w := by
  refine wpList_plain hg fun K hK => ?_
  have hst := run_storeCells_cells (P := P) G 0 cs.toList 0 w (fun j hj => by
      rw [show (0 : Nat) + 0 + j = j by omega, hb.cell j]
      simp at hj
      simp; omega) (fun j hj => hb.frozen _) h1
  have hv : (storeVar ty ⟨G, 0, none⟩ (.agg cs)).run P w = .ok () (w.setCells G 0 cs.toList) := by
    simp [storeVar, Value.cells, ht.2, hst]
  have hB : Blk (w.setCells G 0 cs.toList) G T cs := by
    have := blk_setCells cs.toList 0 w cs0 hb
    rw [overArr_all _ _ hs] at this
    exact this
  have hF : Fr (· = G) w (w.setCells G 0 cs.toList) := fr_setCells (S := (· = G)) (.inl (by simp)) _ _ _ (Fr.refl _ _)
  unfold Oper.wp
  simp [execOp, ho, hx, hy, Instr.storeAt, Instr.sureAddr, hv, asAddr, Result.andThen]
  rw [Oper.upon_skip, hd]
  exact hK a _ (h _ hB hF)
/-- .. at one step of a region that draws. -/
theorem step_storeAgg {w : World} {ops : Array Oper} {o : Oper} {a : Act} {K : Act → World → Prop} {Q : Exit → Act → World → Prop} {E : Prop} (hg : o.guard = none) (ty : TypeId) (x y : Operand) (ho : o.op = .store ty x y) (hd : o.dst = none)
    (G : Nat) (T : TypeId) (cs0 cs : Array Value) (hx : a.eval x = .pointer (some ⟨G, 0, none⟩)) (hy : a.eval y = .agg cs) (hb : Blk w G T cs0) (hs : cs0.size = cs.size) (ht : AggOf P ty cs.size) (h1 : ∀ v ∈ cs.toList, v.oneCell' = true)
    (h : ∀ w', Blk w' G T cs → Fr (· = G) w w' → K a w') : if Region.wanted o (yielded ops a.tmps) = true then Oper.wp P o a w K Q else E := by
  have hw : Region.wanted o (yielded ops a.tmps) = true := by simp [Region.wanted, hg]
  rw [if_pos hw]
  have hst := run_storeCells_cells (P := P) G 0 cs.toList 0 w (fun j hj => by
      rw [show (0 : Nat) + 0 + j = j by omega, hb.cell j]
      simp at hj
      simp; omega) (fun j hj => hb.frozen _) h1
  have hv : (storeVar ty ⟨G, 0, none⟩ (.agg cs)).run P w = .ok () (w.setCells G 0 cs.toList) := by
    simp [storeVar, Value.cells, ht.2, hst]
  have hB : Blk (w.setCells G 0 cs.toList) G T cs := by
    have := blk_setCells cs.toList 0 w cs0 hb
    rw [overArr_all _ _ hs] at this
    exact this
  have hF : Fr (· = G) w (w.setCells G 0 cs.toList) := fr_setCells (S := (· = G)) (.inl (by simp)) _ _ _ (Fr.refl _ _)
  unfold Oper.wp
  simp [execOp, ho, hx, hy, Instr.storeAt, Instr.sureAddr, hv, asAddr, Result.andThen]
  rw [Oper.upon_skip, hd]
  exact h _ hB hF
/-- a part of a struct, loaded. -/
theorem wpList_loadPart {w : World} {ops : Array Oper} {rest : List Oper} {o : Oper} {a : Act} {Q : Exit → Act → World → Prop} (hg : o.guard = none) (ty : TypeId) (x : Operand) (ho : o.op = .load ty x)
    (G off : Nat) (T : TypeId) (cs0 cs : Array Value) (hx : a.eval x = .pointer (some ⟨G, off, none⟩)) (hb : Blk w G T cs0) (ht : AggOf P ty cs.size) (hc : (cs0.extract off (off + cs.size)) = cs)
    (h : wpList P ops Q rest (a.put o.dst (.agg cs)) w) : wpList P ops Q (o :: rest) a w := by
  refine wpList_plain hg fun K hK => ?_
  have hl : (loadCells ⟨G, off, none⟩ cs.size).run P w = .ok cs w := by
    have := run_loadCells_list (P := P) w ⟨G, off, none⟩ cs.toList (fun j v hv => by
      rw [Addr.add_lit, hb.cell (off + j)]
      have hv' : cs[j]? = some v := by simpa using hv
      rw [← hc, Array.getElem?_extract] at hv'
      split at hv'
      · exact hv'
      · cases hv')
    rw [Array.length_toList] at this
    exact this
  have hv : (loadVar ty ⟨G, off, none⟩).run P w = .ok (.agg cs) w := by
    simp [loadVar, ht.1, ht.2, hl]
  unfold Oper.wp
  simp [execOp, ho, hx, Instr.loadAt, Instr.sureAddr, hv, asAddr, Result.andThen]
  exact hK _ _ h
/-- a part of a struct, stored. -/
theorem wpList_storePart {w : World} {ops : Array Oper} {rest : List Oper} {o : Oper} {a : Act} {Q : Exit → Act → World → Prop} (hg : o.guard = none) (ty : TypeId) (x y : Operand) (ho : o.op = .store ty x y) (hd : o.dst = none)
    (G off : Nat) (T : TypeId) (cs0 cs cs1 : Array Value) (hx : a.eval x = .pointer (some ⟨G, off, none⟩)) (hy : a.eval y = .agg cs) (hb : Blk w G T cs0) (hs : off + cs.size ≤ cs0.size) (ht : AggOf P ty cs.size) (h1 : ∀ v ∈ cs.toList, v.oneCell' = true) (hc : overArr cs0 off cs.toList = cs1)
    (h : ∀ w', Blk w' G T cs1 → Fr (· = G) w w' → wpList P ops Q rest a w') : wpList P ops Q (o :: rest) a w := by
  refine wpList_plain hg fun K hK => ?_
  have hst := run_storeCells_cells (P := P) G off cs.toList 0 w (fun j hj => by
      rw [Nat.add_zero, hb.cell (off + j)]
      simp at hj
      simp; omega) (fun j hj => hb.frozen _) h1
  have hv : (storeVar ty ⟨G, off, none⟩ (.agg cs)).run P w = .ok () (w.setCells G off cs.toList) := by
    simp [storeVar, Value.cells, ht.2, hst]
  have hB : Blk (w.setCells G off cs.toList) G T cs1 := by
    have := blk_setCells cs.toList off w cs0 hb
    rw [hc] at this
    exact this
  have hF : Fr (· = G) w (w.setCells G off cs.toList) := fr_setCells (S := (· = G)) (.inl (by simp)) _ _ _ (Fr.refl _ _)
  unfold Oper.wp
  simp [execOp, ho, hx, hy, Instr.storeAt, Instr.sureAddr, hv, asAddr, Result.andThen]
  rw [Oper.upon_skip, hd]
  exact hK a _ (h _ hB hF)
theorem aggInfo : AggOf Try.prog 38 8 := ⟨fun w => by kernel_rfl, fun w => by kernel_rfl⟩
theorem aggCaller : AggOf Try.prog 92 4 := ⟨fun w => by kernel_rfl, fun w => by kernel_rfl⟩
theorem aggPlace : AggOf Try.prog 95 19 := ⟨fun w => by kernel_rfl, fun w => by kernel_rfl⟩
theorem aggPath : AggOf Try.prog 122 3 := ⟨fun w => by kernel_rfl, fun w => by kernel_rfl⟩
theorem one_all {cs : Array Value} (h : cs.toList.all (·.oneCell') = true) : ∀ v ∈ cs.toList, v.oneCell' = true := fun v hv => List.all_eq_true.1 h v hv
/-- an answer that lies in a block and a slot. -/
theorem resAgg (fn : Func) (sa sb : Nat) (ty : TypeId) (hfn : fn.results = #[.cell sa ty, .tmp sb]) {cs : Array Value} {b : Value} (h : Blk W G T cs) (ht : AggOf Try.prog ty cs.size) (tmps : Array Value) (h1 : tmps.getD sa undef = .pointer (some ⟨G, 0, none⟩)) (h2 : tmps.getD sb undef = b) :
    (results fn tmps).run Try.prog W = .ok (.tuple #[.agg cs, b]) W := by
  have hl : (loadCells ⟨G, 0, none⟩ cs.size).run Try.prog W = .ok cs W := by
    have := run_loadCells_list (P := Try.prog) W ⟨G, 0, none⟩ cs.toList (fun j v hv => by
      rw [Addr.add_lit, Nat.zero_add, h.cell j]
      simpa using hv)
    rw [Array.length_toList] at this
    exact this
  have hv : (loadVar ty ⟨G, 0, none⟩).run Try.prog W = .ok (.agg cs) W := by
    simp [loadVar, ht.1, ht.2, hl]
  simp only [Array.getD_eq_getD_getElem?] at h1 h2
  simp [results, hfn, h1, h2, hv, asAddr]
end Go.Proofs.Ytflncolmehmaaaa
