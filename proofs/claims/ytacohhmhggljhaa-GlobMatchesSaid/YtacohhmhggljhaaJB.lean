/- Whole structs of the document's side: a part of 259 cells in memory. -/
import Derived.Test.YtacohhmhggljhaaJA
import Derived.Great.BuildSlice
import Derived.Laws.IdiomCopy
namespace Go.Proofs.Ytacohhmhggljhaa
open Go.RowKit
set_option linter.unusedVariables false
set_option linter.unusedSimpArgs false
section
variable {P : Program} {W W' : World} {G : Nat} {T : TypeId}
/-- cells laid over others from a place on. -/
def overArr (cs : Array Value) : Nat → List Value → Array Value
  | _, [] => cs
  | o, v :: r => overArr (cs.setIfInBounds o v) (o + 1) r
theorem overArr_get : ∀ (vs : List Value) (o : Nat) (cs : Array Value), o + vs.length ≤ cs.size → ∀ j, (overArr cs o vs)[j]? = if o ≤ j ∧ j < o + vs.length then vs[j - o]? else cs[j]?
  | [], o, cs, _, j => by rw [overArr, if_neg (by simp)]
  | v :: r, o, cs, h, j => by
    simp only [List.length_cons] at h
    rw [overArr, overArr_get r (o + 1) _ (by simp; omega) j]
    by_cases h1 : j = o
    · subst h1
      rw [if_neg (by omega), if_pos (by simp), Nat.sub_self, Array.getElem?_setIfInBounds_self_of_lt (by omega)]; rfl
    · by_cases h2 : o + 1 ≤ j ∧ j < o + 1 + r.length
      · rw [if_pos h2, if_pos (by simp; omega), show j - o = (j - (o + 1)) + 1 by omega, List.getElem?_cons_succ]
      · rw [if_neg h2, if_neg (by simp; omega), Array.getElem?_setIfInBounds_ne (by omega)]
theorem overArr_all (cs0 cs : Array Value) (h : cs0.size = cs.size) : overArr cs0 0 cs.toList = cs := by
  apply Array.ext_getElem?
  intro j
  rw [overArr_get _ _ _ (by simp [h]) j]
  by_cases hj : j < cs.size
  · rw [if_pos (by simp; omega)]; simp
  · rw [if_neg (by simp; omega), Array.getElem?_eq_none (by omega), Array.getElem?_eq_none (by omega)]
theorem blk_setCells : ∀ (vs : List Value) (o : Nat) (W : World) (cs : Array Value), Blk W G T cs → Blk (W.setCells G o vs) G T (overArr cs o vs)
  | [], _, _, _, h => h
  | v :: r, o, _, _, h => blk_setCells r (o + 1) _ _ (h.set o v)
theorem grown_trans {a b c : World} {g : Nat} (h : a.grownBy b (some g)) (h2 : b.grownBy c (some g)) : a.grownBy c (some g) :=
  ⟨h2.os.trans h.os, h2.tape.trans h.tape, h2.output.trans h.output, Nat.le_trans h.size h2.size, fun k hk hn => (h2.block k (Nat.lt_of_lt_of_le hk h.size) hn).trans (h.block k hk hn)⟩
theorem grown_cells : ∀ (vs : List Value) (o : Nat) (a b : World), a.grownBy b (some G) → a.grownBy (b.setCells G o vs) (some G)
  | [], _, _, _, h => h
  | v :: r, o, a, b, h => grown_cells r (o + 1) a _ (grown_trans h (grownBy_setAt b G o v))
/-- a struct of this type has these many cells. -/
def AggOf (P : Program) (ty : TypeId) (n : Nat) : Prop := (∀ w, (isAgg ty).run P w = .ok true w) ∧ ∀ w, (sizeOf ty).run P w = .ok n w
theorem load_agg {w : World} {ty : TypeId} {g o : Nat} {cs : Array Value} (hc : ∀ j, j < cs.size → w.cell? ⟨g, o + j, none⟩ = cs[j]?) (ht : AggOf P ty cs.size) :
    (loadVar ty ⟨g, o, none⟩).run P w = .ok (.agg cs) w := by
  have hl : (loadCells ⟨g, o, none⟩ cs.size).run P w = .ok cs w := by
    have := run_loadCells_list (P := P) w ⟨g, o, none⟩ cs.toList (fun j v hv => by
      have hv' : cs[j]? = some v := by simpa using hv
      rw [Addr.add_lit, hc j (Array.getElem?_eq_some_iff.1 hv').1]
      exact hv')
    rw [Array.length_toList] at this
    exact this
  simp [loadVar, ht.1, ht.2, hl]
theorem wpList_loadAgg {w : World} {ops : Array Oper} {rest : List Oper} {o : Oper} {a : Act} {Q : Exit → Act → World → Prop} (hg : o.guard = none) (ty : TypeId) (x : Operand) (ho : o.op = .load ty x)
    (G off : Nat) (cs : Array Value) (hx : a.eval x = .pointer (some ⟨G, off, none⟩)) (hc : ∀ j, j < cs.size → w.cell? ⟨G, off + j, none⟩ = cs[j]?) (ht : AggOf P ty cs.size)
    (h : wpList P ops Q rest (a.put o.dst (.agg cs)) w) : wpList P ops Q (o :: rest) a w := by
  refine wpList_plain hg fun K hK => ?_
  have hv := load_agg (P := P) hc ht
  unfold Oper.wp
  simp [execOp, ho, hx, Instr.loadAt, Instr.sureAddr, hv, asAddr, Result.andThen]
  exact hK _ _ h
theorem wpList_storeAgg {w : World} {ops : Array Oper} {rest : List Oper} {o : Oper} {a : Act} {Q : Exit → Act → World → Prop} (hg : o.guard = none) (ty : TypeId) (x y : Operand) (ho : o.op = .store ty x y) (hd : o.dst = none)
    (G : Nat) (T : TypeId) (cs0 cs : Array Value) (hx : a.eval x = .pointer (some ⟨G, 0, none⟩)) (hy : a.eval y = .agg cs) (hb : Blk w G T cs0) (hs : cs0.size = cs.size) (ht : AggOf P ty cs.size) (h1 : ∀ v ∈ cs.toList, v.oneCell' = true)
    (h : ∀ w', Blk w' G T cs → w.grownBy w' (some G) → w'.heap.size = w.heap.size → wpList P ops Q rest a w') : wpList P ops Q (o :: rest) a w := by
  refine wpList_plain hg fun K hK => ?_
  have hst := run_storeCells_cells (P := P) G 0 cs.toList 0 w (fun j hj => by
      rw [show (0 : Nat) + 0 + j = j by omega, hb.cell j]
      simp at hj
      simp; omega) (fun j hj => hb.frozen _) h1
  have hv : (storeVar ty ⟨G, 0, none⟩ (.agg cs)).run P w = .ok () (w.setCells G 0 cs.toList) := by
    simp [storeVar, Value.cells, ht.2, hst]
  have hB : Blk (w.setCells G 0 cs.toList) G T cs := by
    have := blk_setCells cs.toList 0 w cs0 hb
    rw [overArr_all _ _ hs] at this
    exact this
  have hF : w.grownBy (w.setCells G 0 cs.toList) (some G) := grown_cells _ _ _ _ ⟨rfl, rfl, rfl, Nat.le_refl _, fun _ _ _ => rfl⟩
  have hZ : ∀ (vs : List Value) (o : Nat) (u : World), (u.setCells G o vs).heap.size = u.heap.size := by
    intro vs
    induction vs with
    | nil => intro o u; rfl
    | cons v r ih => intro o u; exact (ih (o + 1) _).trans (size_set _ _ _)
  unfold Oper.wp
  simp [execOp, ho, hx, hy, Instr.storeAt, Instr.sureAddr, hv, asAddr, Result.andThen]
  rw [Oper.upon_skip, hd]
  exact hK a _ (h _ hB hF (hZ _ _ _))
/-- a variable of a struct's type comes to be. -/
theorem wpList_allocAgg {w : World} {ops : Array Oper} {rest : List Oper} {o : Oper} {a : Act} {Q : Exit → Act → World → Prop} (hg : o.guard = none) (ty : TypeId) (ho : o.op = .alloc ty)
    (z : Array Value) (hz : ∀ w, (zeroValue ty).run P w = .ok (.agg z) w)
    (h : wpList P ops Q rest (a.put o.dst (.pointer (some ⟨w.heap.size, 0, none⟩))) (w.alloc (.cells z ty))) : wpList P ops Q (o :: rest) a w := by
  refine wpList_plain hg fun K hK => ?_
  unfold Oper.wp
  simp [execOp, ho, Instr.alloc, hz, newVar, newRow, Value.cells, Result.andThen]
  exact hK _ _ h
/-- an answer that lies in a block and a slot. -/
theorem resAgg (fn : Func) (sa sb : Nat) (ty : TypeId) (hfn : fn.results = #[.cell sa ty, .tmp sb]) {cs : Array Value} {b : Value} (h : Blk W G T cs) (ht : AggOf Try.prog ty cs.size) (tmps : Array Value) (h1 : tmps.getD sa undef = .pointer (some ⟨G, 0, none⟩)) (h2 : tmps.getD sb undef = b) :
    (results fn tmps).run Try.prog W = .ok (.tuple #[.agg cs, b]) W := by
  have hv := load_agg (P := Try.prog) (ty := ty) (g := G) (o := 0) (cs := cs) (w := W) (fun j hj => by rw [Nat.zero_add]; exact h.cell j) ht
  simp only [Array.getD_eq_getD_getElem?] at h1 h2
  simp [results, hfn, h1, h2, hv, asAddr]
end
/-- the cells of a part: its kind, its byte, is it turned round, and its set. -/
def bitsC (f : UInt8 → Bool) : List Value := (List.range 256).map fun i => .bool (f (UInt8.ofNat i))
def pC (k c : Nat) (n : Bool) (f : UInt8 → Bool) : Array Value := (.int .u8 k :: .int .u8 c :: .bool n :: bitsC f).toArray
theorem bitsC_len (f : UInt8 → Bool) : (bitsC f).length = 256 := by unfold bitsC; rw [List.length_map, List.length_range]
theorem pC_size (k c : Nat) (n : Bool) (f : UInt8 → Bool) : (pC k c n f).size = 259 := by unfold pC; simp [bitsC_len]
theorem pC_at (k c : Nat) (n : Bool) (f : UInt8 → Bool) (j : Nat) (h : j < 256) : (pC k c n f)[3 + j]? = some (.bool (f (UInt8.ofNat j))) := by
  unfold pC
  rw [List.getElem?_toArray, show 3 + j = j + 1 + 1 + 1 by omega, List.getElem?_cons_succ, List.getElem?_cons_succ, List.getElem?_cons_succ]
  unfold bitsC
  rw [List.getElem?_map, List.getElem?_range h]; rfl
theorem pC_ones (k c : Nat) (n : Bool) (f : UInt8 → Bool) : ∀ v ∈ (pC k c n f).toList, v.oneCell' = true := by
  unfold pC bitsC
  intro v hv
  simp only [List.mem_cons, List.mem_map] at hv
  rcases hv with rfl | rfl | rfl | ⟨i, _, rfl⟩ <;> rfl
theorem pC_neg (k c : Nat) (n m : Bool) (f : UInt8 → Bool) : (pC k c n f).setIfInBounds 2 (.bool m) = pC k c m f := by
  unfold pC
  rw [List.setIfInBounds_toArray]; rfl
theorem pC_set (k c : Nat) (n : Bool) (f : UInt8 → Bool) (j : Nat) (h : j < 256) : (pC k c n f).setIfInBounds (3 + j) (.bool true) = pC k c n (insF f (UInt8.ofNat j)) := by
  unfold pC
  rw [List.setIfInBounds_toArray, show 3 + j = j + 1 + 1 + 1 by omega, List.set_cons_succ, List.set_cons_succ, List.set_cons_succ]
  have : (bitsC f).set j (.bool true) = bitsC (insF f (UInt8.ofNat j)) := by
    apply List.ext_getElem?
    intro i
    unfold bitsC
    rw [List.getElem?_set, List.getElem?_map, List.getElem?_map, List.length_map, List.length_range]
    by_cases hi : i < 256
    · rw [List.getElem?_range hi]
      by_cases e : j = i
      · subst e; rw [if_pos rfl, if_pos h]; simp [insF]
      · rw [if_neg e]
        have hne : (UInt8.ofNat i == UInt8.ofNat j) = false := by
          rw [beq_eq_false_iff_ne]
          intro e2
          have := congrArg UInt8.toNat e2
          rw [ofNat_nat hi, ofNat_nat h] at this
          exact e this.symm
        simp [insF, hne]
    · rw [List.getElem?_eq_none (by simp; omega), if_neg (by omega)]
      simp
  rw [this]
theorem aggR (k c : Nat) (n : Bool) (f : UInt8 → Bool) : AggOf Try.prog 48 (pC k c n f).size := by
  rw [pC_size]; exact ⟨fun w => by kernel_rfl, fun w => by kernel_rfl⟩
theorem zeroR (w : World) : (zeroValue 48).run Try.prog w = .ok (.agg (pC 0 0 false noneF)) w := by kernel_rfl
theorem builtR (k c : Nat) : Try.prog.built 48 [(0, .int .u8 k), (1, .int .u8 c)] = some (pC k c false noneF) := by kernel_rfl
theorem builtR1 (k : Nat) : Try.prog.built 48 [(0, .int .u8 k)] = some (pC k 0 false noneF) := by kernel_rfl
theorem builtR0 : Try.prog.built 48 [] = some (pC 0 0 false noneF) := by kernel_rfl
end Go.Proofs.Ytacohhmhggljhaa
