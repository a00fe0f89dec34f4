/- The program's pipe in memory; copies by cells; contracts of New, Join, Leave, State, count, place; the document's pipe. -/
import Derived.Test.YthgjhpiajjamnaaKA
import Derived.WalkKit
import Derived.WalkSpells
import Derived.WalkLawsBesides
import Derived.Below
import Derived.Deep.OwnRows
import Derived.Deep.QuietTactic
import Derived.BigQuiet
import Derived.BigRegion
import Derived.StillTail
import Derived.StillTactics
import Derived.StillTailTactics
import Derived.Lib.Hide
import Derived.Lib.LazyBuf
import Derived.Laws.OwnMore
import Derived.Laws.Rows
namespace Go.Proofs.Ythgjhpiajjamnaa
open Go.RowKit
set_option linter.unusedVariables false
set_option linter.unusedSimpArgs false

theorem ret_bool {a b : Bool} (h : a = b) : Ending.returned (.bool a) = .returned (.bool b) := by rw [h]
theorem ret_int {k : IntKind} {a b : Int} (h : a = b) : Ending.returned (.int k a) = .returned (.int k b) := by rw [h]
theorem ret_val {a b : Value} (h : a = b) : Ending.returned a = .returned b := by rw [h]
theorem cell_lt {w : World} {g j : Nat} {v : Value} (hc : w.cell? ⟨g, j, none⟩ = some v) : g < w.heap.size := by
  unfold World.cell? at hc
  cases ho : w.heap[g]? with
  | none => simp [ho] at hc
  | some o => exact (Array.getElem?_eq_some_iff.1 ho).1
/-- the world has changed in these blocks alone, and has new ones. -/
structure Fr (S : Nat → Prop) (w w' : World) : Prop where
  os : w'.os = w.os
  tape : w'.tape = w.tape
  output : w'.output = w.output
  size : w.heap.size ≤ w'.heap.size
  block : ∀ k, k < w.heap.size → ¬ S k → w'.heap[k]? = w.heap[k]?
theorem Fr.refl (S : Nat → Prop) (w : World) : Fr S w w := ⟨rfl, rfl, rfl, Nat.le_refl _, fun _ _ _ => rfl⟩
theorem Fr.trans {S : Nat → Prop} {a b c : World} (h : Fr S a b) (k : Fr S b c) : Fr S a c :=
  ⟨k.os.trans h.os, k.tape.trans h.tape, k.output.trans h.output, Nat.le_trans h.size k.size, fun i hi hn => (k.block i (Nat.lt_of_lt_of_le hi h.size) hn).trans (h.block i hi hn)⟩
theorem Fr.mono {S S' : Nat → Prop} {a b : World} (h : Fr S a b) (hs : ∀ k, k < a.heap.size → S k → S' k) : Fr S' a b :=
  ⟨h.os, h.tape, h.output, h.size, fun i hi hn => h.block i hi fun k => hn (hs i hi k)⟩
theorem Fr.drewN {S : Nat → Prop} {a b : World} (h : Fr S a b) (n : Nat) : Fr S a (b.drewN n) := ⟨h.os, h.tape, h.output, h.size, h.block⟩
theorem Fr.drew {S : Nat → Prop} {a b : World} (h : Fr S a b) : Fr S a b.drew := ⟨h.os, h.tape, h.output, h.size, h.block⟩
theorem Fr.alloc {S : Nat → Prop} {a b : World} (h : Fr S a b) (o : Obj) : Fr S a (b.alloc o) :=
  ⟨h.os, h.tape, h.output, Nat.le_trans h.size (by simp), fun i hi hn => (Below.heap_alloc b o i (Nat.lt_of_lt_of_le hi h.size)).trans (h.block i hi hn)⟩
theorem Fr.setCell {S : Nat → Prop} {a b : World} (h : Fr S a b) {p : Addr} (hp : S p.block ∨ a.heap.size ≤ p.block) (u : Value) : Fr S a (b.setCell p u) :=
  ⟨h.os, h.tape, h.output, by simpa [World.setCell] using h.size, fun i hi hn => (Below.heap_setCell b p u i (by
    rintro rfl
    rcases hp with hp | hp
    · exact hn hp
    · omega)).trans (h.block i hi hn)⟩
theorem Fr.of_below {S : Nat → Prop} {a b : World} (h : Below a.heap.size a b) : Fr S a b := ⟨h.os, h.tape, h.output, h.size, fun i hi _ => h.block i hi⟩
theorem Fr.cell {S : Nat → Prop} {a b : World} (h : Fr S a b) {g o : Nat} {v : Value} (hc : a.cell? ⟨g, o, none⟩ = some v) (hn : ¬ S g) : b.cell? ⟨g, o, none⟩ = some v :=
  (World.cell?_of_block (h.block g (cell_lt hc) hn)).trans hc
theorem Fr.setCells {S : Nat → Prop} {a : World} {g : Nat} (hp : S g ∨ a.heap.size ≤ g) : ∀ (vs : List Value) (o : Nat) (b : World), Fr S a b → Fr S a (b.setCells g o vs)
  | [], _, _, h => h
  | v :: r, o, b, h => Fr.setCells hp r (o + 1) _ (h.setCell (p := ⟨g, o, none⟩) hp v)
theorem Fr.below {S : Nat → Prop} {B : Nat} {w0 a b : World} (h : Below B w0 a) (hB : B ≤ w0.heap.size) (k : Fr S a b) (hs : ∀ g, S g → B ≤ g) : Below B w0 b :=
  h.trans ⟨k.os, k.tape, k.output, k.size, fun i hi => k.block i (by have := h.size; omega) (fun e => by have := hs i e; omega)⟩

/-- a byte's cell. -/
def cellB (b : UInt8) : Value := .int .u8 (b.toNat : Int)
/-- 'copy' between slices, by cells. -/
theorem wpList_copy_set {P : Program} {w : World} {ops : Array Oper} {rest : List Oper} {o : Oper} {a : Act} {Q : Exit → Act → World → Prop} (hgd : o.guard = none) (d s : Operand) (dT sT : TypeId)
    (ho : o.op = .call { callee := .builtin .copy, args := #[d, s], argTypes := #[dT, sT] }) (elem : TypeId) (hu : P.underlying dT = some (.slice elem)) (hsz : (P.info? elem).map (·.size) = some 1)
    (dp sp : Option Addr) (dLen dCap sLen sCap : Nat) (hd : a.eval d = .slice dp dLen dCap) (hs : a.eval s = .slice sp sLen sCap)
    (g off : Nat) (cs : List Value) (hn : cs.length = Nat.min sLen dLen)
    (hpos : 0 < cs.length → dp = some ⟨g, off, none⟩ ∧ ∃ ad, sp = some ad ∧ ∀ j v, cs[j]? = some v → w.cell? (ad.add j) = some v)
    (hc : ∀ j, j < cs.length → (w.cell? ⟨g, off + j, none⟩).isSome = true) (hf : ∀ j, j < cs.length → w.frozen? ⟨g, off + j, none⟩ = false) (h1 : ∀ v ∈ cs, v.oneCell' = true)
    (h : wpList P ops Q rest (a.put o.dst (goInt cs.length)) (w.setCells g off cs)) :
    wpList P ops Q (o :: rest) a w := by
  refine wpList_plain hgd fun K hK => ?_
  have hrun : (Builtin.copy_ #[dT, sT] o.type #[.slice dp dLen dCap, .slice sp sLen sCap]).run P w = .ok (goInt cs.length) (w.setCells g off cs) := by
    by_cases h0 : cs.length = 0
    · obtain rfl : cs = [] := List.eq_nil_of_length_eq_zero h0
      exact run_copy_none (P := P) w dT sT o.type elem dp sp dLen dCap sLen sCap hu hsz (by simpa using hn.symm)
    · obtain ⟨rfl, ad, rfl, hsrc⟩ := hpos (by omega)
      exact run_copy_cells (P := P) w dT sT o.type elem g off dLen dCap ad sLen sCap cs hu hsz hn hsrc hc hf h1
  unfold Oper.wp
  simp [execOp, ho, resolve, invoke, builtin, hd, hs, hrun, Result.andThen]
  exact hK _ _ h
theorem run_copy_text {P : Program} (w : World) (dT sT ty elem : TypeId) (dp : Option Addr) (b o dLen dCap : Nat) (t : ByteArray) (cs : List Value) (hcs : cs = (t.data.toList.take dLen).map cellB)
    (hu : P.underlying dT = some (.slice elem)) (hsz : (P.info? elem).map (·.size) = some 1) (hpos : 0 < cs.length → dp = some ⟨b, o, none⟩)
    (hc : ∀ j, j < cs.length → (w.cell? ⟨b, o + j, none⟩).isSome = true) (hf : ∀ j, j < cs.length → w.frozen? ⟨b, o + j, none⟩ = false) :
    (Builtin.copy_ #[dT, sT] ty #[.slice dp dLen dCap, .string t]).run P w = .ok (goInt cs.length) (w.setCells b o cs) := by
  have hlen : cs.length = Nat.min t.size dLen := by
    rw [hcs, List.length_map, List.length_take, Array.length_toList, ByteArray.size_data]
    exact Nat.min_comm dLen t.size
  cases hq : P.info? elem with
  | none => simp [hq] at hsz
  | some i =>
    have hi : i.size = 1 := by simpa [hq] using hsz
    have hst := run_storeCells_cells (P := P) b o cs 0 w (by simpa using hc) (by simpa using hf) (by
      intro v hv
      rw [hcs] at hv
      obtain ⟨x, _, rfl⟩ := List.mem_map.1 hv
      rfl)
    have htk : (List.map (fun x : UInt8 => Value.int .u8 (x.toNat : Int)) t.data.toList).take (Nat.min t.size dLen) = cs := by
      rw [hcs, ← List.map_take]
      show List.map cellB _ = _
      congr 1
      rcases Nat.le_total t.size dLen with hle | hle
      · rw [show Nat.min t.size dLen = t.size from Nat.min_eq_left hle, List.take_of_length_le (by simp [← ByteArray.size_data]), List.take_of_length_le (by simp [← ByteArray.size_data]; exact hle)]
      · rw [show Nat.min t.size dLen = dLen from Nat.min_eq_right hle]
    by_cases h0 : cs.length = 0
    · obtain rfl : cs = [] := List.eq_nil_of_length_eq_zero h0
      rw [← hlen] at htk
      cases dp <;> simp [Builtin.copy_, run_underlying hu, Builtin.lenOf, Builtin.firstCells, sizeOf, typeInfo, hq, hi, ← hlen, storeCells] <;> rfl
    · obtain rfl := hpos (by omega)
      simp [Builtin.copy_, run_underlying hu, Builtin.lenOf, Builtin.firstCells, sizeOf, typeInfo, hq, hi]
      rw [htk, hst, ← hlen]
      rfl
theorem wpList_copy_text {P : Program} {w : World} {ops : Array Oper} {rest : List Oper} {o : Oper} {a : Act} {Q : Exit → Act → World → Prop} (hgd : o.guard = none) (d s : Operand) (dT sT : TypeId)
    (ho : o.op = .call { callee := .builtin .copy, args := #[d, s], argTypes := #[dT, sT] }) (elem : TypeId) (hu : P.underlying dT = some (.slice elem)) (hsz : (P.info? elem).map (·.size) = some 1)
    (dp : Option Addr) (dLen dCap : Nat) (t : ByteArray) (hd : a.eval d = .slice dp dLen dCap) (hs : a.eval s = .string t)
    (g off : Nat) (cs : List Value) (hcs : cs = (t.data.toList.take dLen).map cellB) (hpos : 0 < cs.length → dp = some ⟨g, off, none⟩)
    (hc : ∀ j, j < cs.length → (w.cell? ⟨g, off + j, none⟩).isSome = true) (hf : ∀ j, j < cs.length → w.frozen? ⟨g, off + j, none⟩ = false)
    (h : wpList P ops Q rest (a.put o.dst (goInt cs.length)) (w.setCells g off cs)) :
    wpList P ops Q (o :: rest) a w := by
  refine wpList_plain hgd fun K hK => ?_
  have hrun := run_copy_text (P := P) w dT sT o.type elem dp g off dLen dCap t cs hcs hu hsz hpos hc hf
  unfold Oper.wp
  simp [execOp, ho, resolve, invoke, builtin, hd, hs, hrun, Result.andThen]
  exact hK _ _ h

/-- the pipe's cells. -/
def pipeF (r : Nat → UInt8) (f n rd wr : Nat) (j : Nat) : Value :=
  if j = 0 then .int .i64 rd else if j = 1 then .int .i64 wr else if j = 130 then .int .i64 f else if j = 131 then .int .i64 n else cellB (r (j - 2))
structure PI (W : World) (P : Nat) (r : Nat → UInt8) (f n rd wr : Nat) : Prop where
  row : W.rowIs P 48 132 (pipeF r f n rd wr)
  hf : f < 128
  hn : n ≤ 128
variable {W W' : World} {P : Nat} {r : Nat → UInt8} {f n rd wr : Nat}
theorem PI.of_block (h : PI W P r f n rd wr) (e : W'.heap[P]? = W.heap[P]?) : PI W' P r f n rd wr := ⟨h.row.of_block e, h.hf, h.hn⟩
theorem PI.fr {S : Nat → Prop} (h : PI W P r f n rd wr) (k : Fr S W W') (hs : ¬ S P) : PI W' P r f n rd wr := h.of_block (k.block P h.row.lt hs)
theorem PI.cells (h : PI W P r f n rd wr) : W.cell? ⟨P, 0, none⟩ = some (.int .i64 rd) ∧ W.cell? ⟨P, 1, none⟩ = some (.int .i64 wr) ∧ W.cell? ⟨P, 130, none⟩ = some (.int .i64 f) ∧ W.cell? ⟨P, 131, none⟩ = some (.int .i64 n) :=
  ⟨h.row.cell (by decide), h.row.cell (by decide), h.row.cell (by decide), h.row.cell (by decide)⟩
theorem PI.byte (h : PI W P r f n rd wr) {j : Nat} (hj : j < 128) : W.cell? ⟨P, 2 + j, none⟩ = some (cellB (r j)) := by
  rw [h.row.cell (by omega)]
  unfold pipeF
  rw [if_neg (by omega), if_neg (by omega), if_neg (by omega), if_neg (by omega), show 2 + j - 2 = j by omega]
theorem PI.frozen (h : PI W P r f n rd wr) (o : Nat) : W.frozen? ⟨P, o, none⟩ = false := h.row.frozen o
theorem PI.setReaders (h : PI W P r f n rd wr) (k : Nat) : PI (W.setCell ⟨P, 0, none⟩ (.int .i64 k)) P r f n k wr :=
  ⟨(h.row.set 0 _).congr fun j _ => by unfold pipeF; by_cases e : j = 0 <;> simp [e], h.hf, h.hn⟩
theorem PI.setWriters (h : PI W P r f n rd wr) (k : Nat) : PI (W.setCell ⟨P, 1, none⟩ (.int .i64 k)) P r f n rd k :=
  ⟨(h.row.set 1 _).congr fun j _ => by
    unfold pipeF
    by_cases e : j = 1
    · simp [e]
    · simp [e], h.hf, h.hn⟩
theorem PI.setFirst (h : PI W P r f n rd wr) (k : Nat) (hk : k < 128) : PI (W.setCell ⟨P, 130, none⟩ (.int .i64 k)) P r k n rd wr :=
  ⟨(h.row.set 130 _).congr fun j _ => by
    unfold pipeF
    by_cases e : j = 130
    · simp [e]
    · simp [e], hk, h.hn⟩
theorem PI.setLength (h : PI W P r f n rd wr) (k : Nat) (hk : k ≤ 128) : PI (W.setCell ⟨P, 131, none⟩ (.int .i64 k)) P r f k rd wr :=
  ⟨(h.row.set 131 _).congr fun j _ => by
    unfold pipeF
    by_cases e : j = 131
    · simp [e]
    · simp [e], h.hf, hk⟩
theorem PI.put (h : PI W P r f n rd wr) (o : Nat) (l : Bs) (hl : o + l.length ≤ 128) : PI (W.setCells P (2 + o) (l.map cellB)) P (put1 r o l) f n rd wr :=
  ⟨(rowIs_setCells (l.map cellB) (2 + o) W _ h.row).congr fun j hj => by
    rw [List.length_map]
    by_cases e : 2 + o ≤ j ∧ j < 2 + o + l.length
    · rw [if_pos e, List.getElem?_map, List.getElem?_eq_getElem (by omega)]
      unfold pipeF
      rw [if_neg (by omega), if_neg (by omega), if_neg (by omega), if_neg (by omega), put1_in (by omega) (by omega), show j - 2 - o = j - (2 + o) by omega, List.getElem?_eq_getElem (by omega)]
      rfl
    · rw [if_neg e]
      unfold pipeF
      by_cases e0 : j = 0
      · simp [e0]
      by_cases e1 : j = 1
      · simp [e1]
      by_cases e2 : j = 130
      · simp [e2]
      by_cases e3 : j = 131
      · simp [e3]
      rw [if_neg e0, if_neg e1, if_neg e2, if_neg e3, if_neg e0, if_neg e1, if_neg e2, if_neg e3, put1_out (by omega)], h.hf, h.hn⟩
/-- a pipe with this row of bytes, these readers and writers. -/
def PAt (W : World) (P : Nat) (l : Bs) (rd wr : Nat) : Prop := ∃ r f, PI W P r f l.length rd wr ∧ l = ringL r f l.length
theorem PAt.fr {S : Nat → Prop} {l : Bs} (h : PAt W P l rd wr) (k : Fr S W W') (hs : ¬ S P) : PAt W' P l rd wr := by
  obtain ⟨r, f, h1, h2⟩ := h
  exact ⟨r, f, h1.fr k hs, h2⟩
theorem PAt.len {l : Bs} (h : PAt W P l rd wr) : l.length ≤ 128 := by
  obtain ⟨r, f, h1, h2⟩ := h
  exact h1.hn
theorem PAt.lt {l : Bs} (h : PAt W P l rd wr) : P < W.heap.size := by
  obtain ⟨r, f, h1, h2⟩ := h
  exact h1.row.lt
end Go.Proofs.Ythgjhpiajjamnaa
