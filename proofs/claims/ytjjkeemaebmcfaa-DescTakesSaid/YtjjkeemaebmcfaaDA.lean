/- The table of open descriptions in memory: sixty entries of six cells, the program's and the document's. -/
import Derived.Test.YtjjkeemaebmcfaaRows
import Derived.WalkKit
import Derived.WalkSpells
import Derived.WalkLawsBesides
import Derived.Below
import Derived.Deep.OwnRows
import Derived.Deep.QuietTactic
import Derived.BigQuiet
import Derived.BigRegion
import Derived.StillTail
import Derived.StillTactics
import Derived.StillTailTactics
import Derived.Lib.Hide
import Derived.Lib.LazyBuf
import Derived.Laws.OwnMore
import Derived.Laws.Rows
namespace Go.Proofs.Ytjjkeemaebmcfaa
open Go.RowKit
set_option linter.unusedVariables false
set_option linter.unusedSimpArgs false

theorem ret_bool {a b : Bool} (h : a = b) : Ending.returned (.bool a) = .returned (.bool b) := by rw [h]
theorem ret_int {k : IntKind} {a b : Int} (h : a = b) : Ending.returned (.int k a) = .returned (.int k b) := by rw [h]
theorem ret_val {a b : Value} (h : a = b) : Ending.returned a = .returned b := by rw [h]
theorem cell_lt {w : World} {g j : Nat} {v : Value} (hc : w.cell? ⟨g, j, none⟩ = some v) : g < w.heap.size := by
  unfold World.cell? at hc
  cases ho : w.heap[g]? with
  | none => simp [ho] at hc
  | some o => exact (Array.getElem?_eq_some_iff.1 ho).1
/-- the world has changed in these blocks alone, and has new ones. -/
structure Fr (S : Nat → Prop) (w w' : World) : Prop where
  os : w'.os = w.os
  tape : w'.tape = w.tape
  output : w'.output = w.output
  size : w.heap.size ≤ w'.heap.size
  block : ∀ k, k < w.heap.size → ¬ S k → w'.heap[k]? = w.heap[k]?
theorem Fr.refl (S : Nat → Prop) (w : World) : Fr S w w := ⟨rfl, rfl, rfl, Nat.le_refl _, fun _ _ _ => rfl⟩
theorem Fr.trans {S : Nat → Prop} {a b c : World} (h : Fr S a b) (k : Fr S b c) : Fr S a c :=
  ⟨k.os.trans h.os, k.tape.trans h.tape, k.output.trans h.output, Nat.le_trans h.size k.size, fun i hi hn => (k.block i (Nat.lt_of_lt_of_le hi h.size) hn).trans (h.block i hi hn)⟩
theorem Fr.mono {S S' : Nat → Prop} {a b : World} (h : Fr S a b) (hs : ∀ k, k < a.heap.size → S k → S' k) : Fr S' a b :=
  ⟨h.os, h.tape, h.output, h.size, fun i hi hn => h.block i hi fun k => hn (hs i hi k)⟩
theorem Fr.drewN {S : Nat → Prop} {a b : World} (h : Fr S a b) (n : Nat) : Fr S a (b.drewN n) := ⟨h.os, h.tape, h.output, h.size, h.block⟩
theorem Fr.drew {S : Nat → Prop} {a b : World} (h : Fr S a b) : Fr S a b.drew := ⟨h.os, h.tape, h.output, h.size, h.block⟩
theorem Fr.alloc {S : Nat → Prop} {a b : World} (h : Fr S a b) (o : Obj) : Fr S a (b.alloc o) :=
  ⟨h.os, h.tape, h.output, Nat.le_trans h.size (by simp), fun i hi hn => (Below.heap_alloc b o i (Nat.lt_of_lt_of_le hi h.size)).trans (h.block i hi hn)⟩
theorem Fr.setCell {S : Nat → Prop} {a b : World} (h : Fr S a b) {p : Addr} (hp : S p.block ∨ a.heap.size ≤ p.block) (u : Value) : Fr S a (b.setCell p u) :=
  ⟨h.os, h.tape, h.output, by simpa [World.setCell] using h.size, fun i hi hn => (Below.heap_setCell b p u i (by
    rintro rfl
    rcases hp with hp | hp
    · exact hn hp
    · omega)).trans (h.block i hi hn)⟩
theorem Fr.of_below {S : Nat → Prop} {a b : World} (h : Below a.heap.size a b) : Fr S a b := ⟨h.os, h.tape, h.output, h.size, fun i hi _ => h.block i hi⟩
theorem Fr.cell {S : Nat → Prop} {a b : World} (h : Fr S a b) {g o : Nat} {v : Value} (hc : a.cell? ⟨g, o, none⟩ = some v) (hn : ¬ S g) : b.cell? ⟨g, o, none⟩ = some v :=
  (World.cell?_of_block (h.block g (cell_lt hc) hn)).trans hc
theorem Fr.setCells {S : Nat → Prop} {a : World} {g : Nat} (hp : S g ∨ a.heap.size ≤ g) : ∀ (vs : List Value) (o : Nat) (b : World), Fr S a b → Fr S a (b.setCells g o vs)
  | [], _, _, h => h
  | v :: r, o, b, h => Fr.setCells hp r (o + 1) _ (h.setCell (p := ⟨g, o, none⟩) hp v)
theorem Fr.below {S : Nat → Prop} {B : Nat} {w0 a b : World} (h : Below B w0 a) (hB : B ≤ w0.heap.size) (k : Fr S a b) (hs : ∀ g, S g → B ≤ g) : Below B w0 b :=
  h.trans ⟨k.os, k.tape, k.output, k.size, fun i hi => k.block i (by have := h.size; omega) (fun e => by have := hs i e; omega)⟩

theorem Fr.one (w : World) (P o : Nat) (u : Value) : Fr (· = P) w (w.setCell ⟨P, o, none⟩ u) := (Fr.refl _ _).setCell (p := ⟨P, o, none⟩) (.inl (by simp)) u
/-- an entry: a description, and how often it is held. -/
structure Ent where
  of : Int
  to : Int
  want : Int
  en : Bool
  at_ : Int
  n : Nat
instance : Inhabited Ent := ⟨⟨0, 0, 0, false, 0, 0⟩⟩
def Ent.desc (e : Ent) : List Value := [.int .i64 e.of, .int .i64 e.to, .int .i64 e.want, .bool e.en, .int .i64 e.at_]
def Ent.cells (e : Ent) : List Value := [.int .i64 e.of, .int .i64 e.to, .int .i64 e.want, .bool e.en, .int .i64 e.at_, .int .i64 e.n]
def Ent.zero : Ent := ⟨0, 0, 0, false, 0, 0⟩
def tabF (e : Nat → Ent) (j : Nat) : Value := (e (j / 6)).cells[j % 6]?.getD default
abbrev Tab := Nat → Ent
def upd (e : Tab) (k : Nat) (x : Ent) : Tab := fun i => if i = k then x else e i
theorem upd_at (e : Tab) (k : Nat) (x : Ent) : upd e k x k = x := if_pos rfl
theorem upd_ne (e : Tab) {k i : Nat} (x : Ent) (h : i ≠ k) : upd e k x i = e i := if_neg h
/-- the table in memory. -/
structure TB (ty : TypeId) (W : World) (P : Nat) (e : Tab) : Prop where
  row : W.rowIs P ty 360 (tabF e)
variable {ty : TypeId} {W W' : World} {P : Nat} {e : Tab}
theorem TB.of_block (h : TB ty W P e) (k : W'.heap[P]? = W.heap[P]?) : TB ty W' P e := ⟨h.row.of_block k⟩
theorem TB.fr {S : Nat → Prop} (h : TB ty W P e) (k : Fr S W W') (hs : ¬ S P) : TB ty W' P e := h.of_block (k.block P h.row.lt hs)
theorem TB.lt (h : TB ty W P e) : P < W.heap.size := h.row.lt
theorem TB.frozen (h : TB ty W P e) (o : Nat) : W.frozen? ⟨P, o, none⟩ = false := h.row.frozen o
theorem cell_of (e : Tab) (k j : Nat) (hj : j < 6) : tabF e (k * 6 + j) = (e k).cells[j]?.getD default := by
  unfold tabF
  rw [show (k * 6 + j) / 6 = k by omega, show (k * 6 + j) % 6 = j by omega]
theorem TB.cell (h : TB ty W P e) {k : Nat} (hk : k < 60) (j : Nat) (hj : j < 6) : W.cell? ⟨P, k * 6 + j, none⟩ = some ((e k).cells[j]?.getD default) := by
  rw [h.row.cell (by omega), cell_of e k j hj]
theorem TB.c0 (h : TB ty W P e) {k : Nat} (hk : k < 60) : W.cell? ⟨P, k * 6, none⟩ = some (.int .i64 (e k).of) := h.cell hk 0 (by decide)
theorem TB.c1 (h : TB ty W P e) {k : Nat} (hk : k < 60) : W.cell? ⟨P, k * 6 + 1, none⟩ = some (.int .i64 (e k).to) := h.cell hk 1 (by decide)
theorem TB.c2 (h : TB ty W P e) {k : Nat} (hk : k < 60) : W.cell? ⟨P, k * 6 + 2, none⟩ = some (.int .i64 (e k).want) := h.cell hk 2 (by decide)
theorem TB.c3 (h : TB ty W P e) {k : Nat} (hk : k < 60) : W.cell? ⟨P, k * 6 + 3, none⟩ = some (.bool (e k).en) := h.cell hk 3 (by decide)
theorem TB.c4 (h : TB ty W P e) {k : Nat} (hk : k < 60) : W.cell? ⟨P, k * 6 + 4, none⟩ = some (.int .i64 (e k).at_) := h.cell hk 4 (by decide)
theorem TB.c5 (h : TB ty W P e) {k : Nat} (hk : k < 60) : W.cell? ⟨P, k * 6 + 5, none⟩ = some (.int .i64 (e k).n) := h.cell hk 5 (by decide)
/-- one cell of an entry set. -/
theorem TB.set (h : TB ty W P e) (k j : Nat) (hj : j < 6) (v : Value) (x : Ent) (hx : x.cells = (e k).cells.set j v) : TB ty (W.setCell ⟨P, k * 6 + j, none⟩ v) P (upd e k x) :=
  ⟨(h.row.set (k * 6 + j) _).congr fun i _ => by
    unfold tabF upd
    by_cases e1 : i = k * 6 + j
    · subst e1
      rw [if_pos rfl, if_pos (by omega), hx, show (k * 6 + j) % 6 = j by omega, List.getElem?_set_self (by simpa [Ent.cells] using hj)]
      rfl
    · rw [if_neg e1]
      by_cases e2 : i / 6 = k
      · rw [if_pos e2, hx, List.getElem?_set_ne (by omega), e2]
      · rw [if_neg e2]⟩
theorem TB.setAt (h : TB ty W P e) (k : Nat) (a : Int) : TB ty (W.setCell ⟨P, k * 6 + 4, none⟩ (.int .i64 a)) P (upd e k { e k with at_ := a }) := h.set k 4 (by decide) _ _ rfl
theorem TB.setN (h : TB ty W P e) (k : Nat) (a : Nat) : TB ty (W.setCell ⟨P, k * 6 + 5, none⟩ (.int .i64 a)) P (upd e k { e k with n := a }) := h.set k 5 (by decide) _ _ rfl
theorem TB.setAll (h : TB ty W P e) (k : Nat) (x : Ent) : TB ty (W.setCells P (k * 6) x.cells) P (upd e k x) :=
  ⟨(rowIs_setCells x.cells (k * 6) W _ h.row).congr fun i _ => by
    have hl : x.cells.length = 6 := rfl
    unfold tabF upd
    rw [hl]
    by_cases e2 : i / 6 = k
    · rw [if_pos (by omega), if_pos e2, show i - k * 6 = i % 6 by omega]
    · rw [if_neg (by omega), if_neg e2]⟩
theorem zeroT (ty : TypeId) (hz : ∀ w, (zeroValue ty).run Try.prog w = .ok (.agg ((List.range 360).map (tabF fun _ => Ent.zero)).toArray) w) :
    ∃ Z : Array Value, Z.size = 360 ∧ (∀ w, (zeroValue ty).run Try.prog w = .ok (.agg Z) w) ∧ ∀ w : World, TB ty (w.alloc (.cells Z ty)) w.heap.size fun _ => Ent.zero := by
  refine ⟨_, by simp, hz, fun w => ⟨?_⟩⟩
  have := World.rowIs_alloc w ((List.range 360).map (tabF fun _ => Ent.zero)).toArray ty (tabF fun _ => Ent.zero) (fun i hi => by
    have hi2 : i < 360 := by simpa using hi
    rw [List.getElem?_toArray, List.getElem?_map, List.getElem?_range hi2]
    rfl)
  simpa using this
theorem zeroP (w : World) : (zeroValue 63).run Try.prog w = .ok (.agg ((List.range 360).map (tabF fun _ => Ent.zero)).toArray) w := by kernel_rfl
theorem zeroR (w : World) : (zeroValue 33).run Try.prog w = .ok (.agg ((List.range 360).map (tabF fun _ => Ent.zero)).toArray) w := by kernel_rfl
/-- is there such a description? -/
def isE (e : Tab) (n : Int) : Bool := decide (0 ≤ n) && decide (n < 60) && decide (0 < (e n.toNat).n)
theorem isE_true {e : Tab} {n : Int} (h : isE e n = true) : ∃ k : Nat, n = k ∧ k < 60 ∧ 0 < (e k).n := by
  simp [isE] at h
  exact ⟨n.toNat, by omega, by omega, h.2⟩
end Go.Proofs.Ytjjkeemaebmcfaa
