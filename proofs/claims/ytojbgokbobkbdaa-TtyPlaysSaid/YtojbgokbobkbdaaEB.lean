/- The program's terminal in memory. -/
import Derived.Test.YtojbgokbobkbdaaEA
import Derived.WalkKit
import Derived.WalkSpells
import Derived.WalkLawsBesides
import Derived.Below
import Derived.Deep.OwnRows
import Derived.Deep.QuietTactic
import Derived.Deep.AppendLies
import Derived.BigQuiet
import Derived.BigRegion
import Derived.StillTail
import Derived.StillTactics
import Derived.StillTailTactics
import Derived.Lib.Hide
import Derived.Lib.FrozenHead
import Derived.Sort.EncStr
import Derived.Laws.OwnMore
import Derived.Laws.Rows
namespace Go.Proofs.Ytojbgokbobkbdaa
open Go.RowKit
set_option linter.unusedVariables false
set_option linter.unusedSimpArgs false

theorem ret_bool {a b : Bool} (h : a = b) : Ending.returned (.bool a) = .returned (.bool b) := by rw [h]
theorem ret_int {k : IntKind} {a b : Int} (h : a = b) : Ending.returned (.int k a) = .returned (.int k b) := by rw [h]
theorem ret_val {a b : Value} (h : a = b) : Ending.returned a = .returned b := by rw [h]
theorem cell_lt {w : World} {g j : Nat} {v : Value} (hc : w.cell? ⟨g, j, none⟩ = some v) : g < w.heap.size := by
  unfold World.cell? at hc
  cases ho : w.heap[g]? with
  | none => simp [ho] at hc
  | some o => exact (Array.getElem?_eq_some_iff.1 ho).1
/-- the world has changed in these blocks alone, and has new ones. -/
structure Fr (S : Nat → Prop) (w w' : World) : Prop where
  os : w'.os = w.os
  tape : w'.tape = w.tape
  output : w'.output = w.output
  size : w.heap.size ≤ w'.heap.size
  block : ∀ k, k < w.heap.size → ¬ S k → w'.heap[k]? = w.heap[k]?
theorem Fr.refl (S : Nat → Prop) (w : World) : Fr S w w := ⟨rfl, rfl, rfl, Nat.le_refl _, fun _ _ _ => rfl⟩
theorem Fr.trans {S : Nat → Prop} {a b c : World} (h : Fr S a b) (k : Fr S b c) : Fr S a c :=
  ⟨k.os.trans h.os, k.tape.trans h.tape, k.output.trans h.output, Nat.le_trans h.size k.size, fun i hi hn => (k.block i (Nat.lt_of_lt_of_le hi h.size) hn).trans (h.block i hi hn)⟩
theorem Fr.mono {S S' : Nat → Prop} {a b : World} (h : Fr S a b) (hs : ∀ k, k < a.heap.size → S k → S' k) : Fr S' a b :=
  ⟨h.os, h.tape, h.output, h.size, fun i hi hn => h.block i hi fun k => hn (hs i hi k)⟩
theorem Fr.drewN {S : Nat → Prop} {a b : World} (h : Fr S a b) (n : Nat) : Fr S a (b.drewN n) := ⟨h.os, h.tape, h.output, h.size, h.block⟩
theorem Fr.drew {S : Nat → Prop} {a b : World} (h : Fr S a b) : Fr S a b.drew := ⟨h.os, h.tape, h.output, h.size, h.block⟩
theorem Fr.alloc {S : Nat → Prop} {a b : World} (h : Fr S a b) (o : Obj) : Fr S a (b.alloc o) :=
  ⟨h.os, h.tape, h.output, Nat.le_trans h.size (by simp), fun i hi hn => (Below.heap_alloc b o i (Nat.lt_of_lt_of_le hi h.size)).trans (h.block i hi hn)⟩
theorem Fr.setCell {S : Nat → Prop} {a b : World} (h : Fr S a b) {p : Addr} (hp : S p.block ∨ a.heap.size ≤ p.block) (u : Value) : Fr S a (b.setCell p u) :=
  ⟨h.os, h.tape, h.output, by simpa [World.setCell] using h.size, fun i hi hn => (Below.heap_setCell b p u i (by
    rintro rfl
    rcases hp with hp | hp
    · exact hn hp
    · omega)).trans (h.block i hi hn)⟩
theorem Fr.of_below {S : Nat → Prop} {a b : World} (h : Below a.heap.size a b) : Fr S a b := ⟨h.os, h.tape, h.output, h.size, fun i hi _ => h.block i hi⟩
theorem Fr.cell {S : Nat → Prop} {a b : World} (h : Fr S a b) {g o : Nat} {v : Value} (hc : a.cell? ⟨g, o, none⟩ = some v) (hn : ¬ S g) : b.cell? ⟨g, o, none⟩ = some v :=
  (World.cell?_of_block (h.block g (cell_lt hc) hn)).trans hc
theorem Fr.setCells {S : Nat → Prop} {a : World} {g : Nat} (hp : S g ∨ a.heap.size ≤ g) : ∀ (vs : List Value) (o : Nat) (b : World), Fr S a b → Fr S a (b.setCells g o vs)
  | [], _, _, h => h
  | v :: r, o, b, h => Fr.setCells hp r (o + 1) _ (h.setCell (p := ⟨g, o, none⟩) hp v)
theorem Fr.below {S : Nat → Prop} {B : Nat} {w0 a b : World} (h : Below B w0 a) (hB : B ≤ w0.heap.size) (k : Fr S a b) (hs : ∀ g, S g → B ≤ g) : Below B w0 b :=
  h.trans ⟨k.os, k.tape, k.output, k.size, fun i hi => k.block i (by have := h.size; omega) (fun e => by have := hs i e; omega)⟩


theorem Fr.one (w : World) (P o : Nat) (u : Value) : Fr (· = P) w (w.setCell ⟨P, o, none⟩ u) := (Fr.refl _ _).setCell (p := ⟨P, o, none⟩) (.inl (by simp)) u
theorem Fr.grown {a b : World} {row : Option Nat} (k : a.grownBy b row) : Fr (fun i => row = some i) a b :=
  ⟨k.os, k.tape, k.output, k.size, fun i hi hn => k.block i hi (fun e => hn e.symm)⟩
theorem heap_set {W : World} {T : Nat} {cs : Array Value} {t : TypeId} {fr : Nat × Nat} (hb : W.heap[T]? = some (.cells cs t fr)) (i : Nat) (u : Value) : (W.setCell ⟨T, i, none⟩ u).heap[T]? = some (.cells (cs.setIfInBounds i u) t fr) := by
  simp [World.setCell, Array.getElem?_modify, hb]
theorem heap_lt {W : World} {T : Nat} {o : Obj} (hb : W.heap[T]? = some o) : T < W.heap.size := (Array.getElem?_eq_some_iff.1 hb).1
section
variable {W W' : World} {B n : Nat} {e : TypeId} {v : Value} {xs : List Value}
theorem own_type (h : W.ownsRow B e 1 v n xs) {k : Nat} (hk : v.ownBlock = some k) : B ≤ k ∧ k < W.heap.size ∧ ∃ cur fz, W.heap[k]? = some (.cells cur e fz) := by
  rcases h.2 with ⟨rfl, _⟩ | ⟨g, cap, cur, rfl, hb, hg, _⟩
  · simp [Value.ownBlock] at hk
  · simp [Value.ownBlock] at hk
    subst hk
    exact ⟨hb, heap_lt hg, cur, _, hg⟩
theorem ownF_type (h : W.ownsRowF B e 1 v n xs) {k : Nat} (hk : v.ownBlock = some k) : B ≤ k ∧ k < W.heap.size ∧ ∃ cur fz, W.heap[k]? = some (.cells cur e fz) := by
  rcases h.2 with ⟨rfl, _⟩ | ⟨g, cap, cur, fz, rfl, hb, hg, _⟩
  · simp [Value.ownBlock] at hk
  · simp [Value.ownBlock] at hk
    subst hk
    exact ⟨hb, heap_lt hg, cur, _, hg⟩
theorem own_fr {S : Nat → Prop} (h : W.ownsRow B e 1 v n xs) (f : Fr S W W') (hs : ∀ k, v.ownBlock = some k → ¬ S k) : W'.ownsRow B e 1 v n xs := by
  refine ⟨h.1, ?_⟩
  rcases h.2 with hn | ⟨g, cap, cur, rfl, hb, hg, rest⟩
  · exact .inl hn
  · exact .inr ⟨g, cap, cur, rfl, hb, (f.block g (heap_lt hg) (hs g rfl)).trans hg, rest⟩
theorem ownF_fr {S : Nat → Prop} (h : W.ownsRowF B e 1 v n xs) (f : Fr S W W') (hs : ∀ k, v.ownBlock = some k → ¬ S k) : W'.ownsRowF B e 1 v n xs := by
  refine ⟨h.1, ?_⟩
  rcases h.2 with hn | ⟨g, cap, cur, fz, rfl, hb, hg, rest⟩
  · exact .inl hn
  · exact .inr ⟨g, cap, cur, fz, rfl, hb, (f.block g (heap_lt hg) (hs g rfl)).trans hg, rest⟩
theorem own_form (h : W.ownsRow B e 1 v n xs) : ∃ ao cap, v = .slice ao n cap ∧ n ≤ cap := by
  rcases h.2 with ⟨rfl, rfl⟩ | ⟨g, cap, cur, rfl, _, _, hc, _⟩
  · exact ⟨_, _, rfl, Nat.le_refl _⟩
  · exact ⟨_, _, rfl, hc⟩
theorem ownF_form (h : W.ownsRowF B e 1 v n xs) : ∃ ao cap, v = .slice ao n cap := by
  rcases h.2 with ⟨rfl, rfl⟩ | ⟨g, cap, cur, fz, rfl, _⟩
  · exact ⟨_, _, rfl⟩
  · exact ⟨_, _, rfl⟩
end
/-- the terminal's cells and rows. -/
structure TR (W : World) (B T : Nat) (v0 : Value) (q : Int) (v2 : Value) (e : Bool) (p v5 : Value) (L : List Bs) (line sh : Bs) : Prop where
  hb : W.heap[T]? = some (.cells #[v0, .int .i64 q, v2, .bool e, p, v5] 55 (0, 0))
  hp : p = .pointer none ∨ p = .pointer (some ⟨T, 4, none⟩)
  o0 : W.ownsRow B 9 1 v0 L.length (L.map encStr)
  o2 : W.ownsRow B 5 1 v2 line.length (Lib.byteCells line)
  o5 : W.ownsRowF B 5 1 v5 sh.length (Lib.byteCells sh)
  n25 : ∀ k, v2.ownBlock = some k → v5.ownBlock ≠ some k
  base : B ≤ T
  z5 : sh = [] → v5 = .slice none 0 0
def Bl (T : Nat) (v0 v2 v5 : Value) (k : Nat) : Prop := k = T ∨ v0.ownBlock = some k ∨ v2.ownBlock = some k ∨ v5.ownBlock = some k
section
variable {W W' : World} {B T : Nat} {v0 v2 p v5 : Value} {q : Int} {e : Bool} {L : List Bs} {line sh : Bs}
theorem TR.lt (h : TR W B T v0 q v2 e p v5 L line sh) {k : Nat} (hk : Bl T v0 v2 v5 k) : B ≤ k ∧ k < W.heap.size := by
  rcases hk with rfl | hk | hk | hk
  · exact ⟨h.base, heap_lt h.hb⟩
  · exact ⟨(own_type h.o0 hk).1, (own_type h.o0 hk).2.1⟩
  · exact ⟨(own_type h.o2 hk).1, (own_type h.o2 hk).2.1⟩
  · exact ⟨(ownF_type h.o5 hk).1, (ownF_type h.o5 hk).2.1⟩
theorem types_ne {W : World} {k : Nat} {a b : Array Value} {s t : TypeId} {f g : Nat × Nat} (h1 : W.heap[k]? = some (.cells a s f)) (h2 : W.heap[k]? = some (.cells b t g)) (h : s ≠ t) : False := by
  rw [h1] at h2
  cases h2
  exact h rfl
theorem TR.n0 (h : TR W B T v0 q v2 e p v5 L line sh) : ∀ k, v0.ownBlock = some k → k ≠ T := by
  rintro k hk rfl
  obtain ⟨_, _, c, f, hc⟩ := own_type h.o0 hk
  exact types_ne hc h.hb (by decide)
theorem TR.n2 (h : TR W B T v0 q v2 e p v5 L line sh) : ∀ k, v2.ownBlock = some k → k ≠ T := by
  rintro k hk rfl
  obtain ⟨_, _, c, f, hc⟩ := own_type h.o2 hk
  exact types_ne hc h.hb (by decide)
theorem TR.n5 (h : TR W B T v0 q v2 e p v5 L line sh) : ∀ k, v5.ownBlock = some k → k ≠ T := by
  rintro k hk rfl
  obtain ⟨_, _, c, f, hc⟩ := ownF_type h.o5 hk
  exact types_ne hc h.hb (by decide)
theorem TR.n02 (h : TR W B T v0 q v2 e p v5 L line sh) : ∀ k, v0.ownBlock = some k → v2.ownBlock ≠ some k := by
  rintro k hk h2
  obtain ⟨_, _, c, f, hc⟩ := own_type h.o0 hk
  obtain ⟨_, _, c2, f2, hc2⟩ := own_type h.o2 h2
  exact types_ne hc hc2 (by decide)
theorem TR.n05 (h : TR W B T v0 q v2 e p v5 L line sh) : ∀ k, v0.ownBlock = some k → v5.ownBlock ≠ some k := by
  rintro k hk h2
  obtain ⟨_, _, c, f, hc⟩ := own_type h.o0 hk
  obtain ⟨_, _, c2, f2, hc2⟩ := ownF_type h.o5 h2
  exact types_ne hc hc2 (by decide)
theorem TR.fr {S : Nat → Prop} (h : TR W B T v0 q v2 e p v5 L line sh) (f : Fr S W W') (hs : ∀ k, Bl T v0 v2 v5 k → ¬ S k) : TR W' B T v0 q v2 e p v5 L line sh :=
  ⟨(f.block T (heap_lt h.hb) (hs T (.inl rfl))).trans h.hb, h.hp, own_fr h.o0 f fun k hk => hs k (.inr (.inl hk)), own_fr h.o2 f fun k hk => hs k (.inr (.inr (.inl hk))), ownF_fr h.o5 f fun k hk => hs k (.inr (.inr (.inr hk))), h.n25, h.base, h.z5⟩
theorem TR.cell (h : TR W B T v0 q v2 e p v5 L line sh) : W.cell? ⟨T, 0, none⟩ = some v0 ∧ W.cell? ⟨T, 1, none⟩ = some (.int .i64 q) ∧ W.cell? ⟨T, 2, none⟩ = some v2 ∧ W.cell? ⟨T, 3, none⟩ = some (.bool e) ∧ W.cell? ⟨T, 4, none⟩ = some p ∧ W.cell? ⟨T, 5, none⟩ = some v5 := by
  refine ⟨?_, ?_, ?_, ?_, ?_, ?_⟩ <;> rw [Lib.cell_of_heap h.hb] <;> rfl
theorem TR.frozen (h : TR W B T v0 q v2 e p v5 L line sh) (o : Nat) : W.frozen? ⟨T, o, none⟩ = false := Lib.frozen_of_heap h.hb o
/-- one cell stored. -/
theorem TR.sq (h : TR W B T v0 q v2 e p v5 L line sh) (q' : Int) : TR (W.setCell ⟨T, 1, none⟩ (.int .i64 q')) B T v0 q' v2 e p v5 L line sh :=
  ⟨heap_set h.hb _ _, h.hp, own_fr h.o0 (Fr.one _ _ _ _) h.n0, own_fr h.o2 (Fr.one _ _ _ _) h.n2, ownF_fr h.o5 (Fr.one _ _ _ _) h.n5, h.n25, h.base, h.z5⟩
theorem TR.se (h : TR W B T v0 q v2 e p v5 L line sh) (e' : Bool) : TR (W.setCell ⟨T, 3, none⟩ (.bool e')) B T v0 q v2 e' p v5 L line sh :=
  ⟨heap_set h.hb _ _, h.hp, own_fr h.o0 (Fr.one _ _ _ _) h.n0, own_fr h.o2 (Fr.one _ _ _ _) h.n2, ownF_fr h.o5 (Fr.one _ _ _ _) h.n5, h.n25, h.base, h.z5⟩
theorem TR.sp (h : TR W B T v0 q v2 e p v5 L line sh) : TR (W.setCell ⟨T, 4, none⟩ (.pointer (some ⟨T, 4, none⟩))) B T v0 q v2 e (.pointer (some ⟨T, 4, none⟩)) v5 L line sh :=
  ⟨heap_set h.hb _ _, .inr rfl, own_fr h.o0 (Fr.one _ _ _ _) h.n0, own_fr h.o2 (Fr.one _ _ _ _) h.n2, ownF_fr h.o5 (Fr.one _ _ _ _) h.n5, h.n25, h.base, h.z5⟩
theorem TR.s0 (h : TR W B T v0 q v2 e p v5 L line sh) {v0' : Value} {L' : List Bs} (h0 : W.ownsRow B 9 1 v0' L'.length (L'.map encStr)) : TR (W.setCell ⟨T, 0, none⟩ v0') B T v0' q v2 e p v5 L' line sh :=
  ⟨heap_set h.hb _ _, h.hp, own_fr h0 (Fr.one _ _ _ _) (by
    rintro k hk rfl
    obtain ⟨_, _, c, f, hc⟩ := own_type h0 hk
    exact types_ne hc h.hb (by decide)), own_fr h.o2 (Fr.one _ _ _ _) h.n2, ownF_fr h.o5 (Fr.one _ _ _ _) h.n5, h.n25, h.base, h.z5⟩
theorem TR.s2 (h : TR W B T v0 q v2 e p v5 L line sh) {v2' : Value} {line' : Bs} (h2 : W.ownsRow B 5 1 v2' line'.length (Lib.byteCells line')) (hn : ∀ k, v2'.ownBlock = some k → v5.ownBlock ≠ some k) : TR (W.setCell ⟨T, 2, none⟩ v2') B T v0 q v2' e p v5 L line' sh :=
  ⟨heap_set h.hb _ _, h.hp, own_fr h.o0 (Fr.one _ _ _ _) h.n0, own_fr h2 (Fr.one _ _ _ _) (by
    rintro k hk rfl
    obtain ⟨_, _, c, f, hc⟩ := own_type h2 hk
    exact types_ne hc h.hb (by decide)), ownF_fr h.o5 (Fr.one _ _ _ _) h.n5, hn, h.base, h.z5⟩
theorem own_none (W : World) (B : Nat) (e : TypeId) : W.ownsRow B e 1 (.slice none 0 0) 0 [] := World.ownsRow_nil W B e 1
/-- appended to a row: the row's value is stored then. -/
theorem TR.a0 (h : TR W B T v0 q v2 e p v5 L line sh) {v0' : Value} {L' : List Bs} (g : W.grownBy W' v0.ownBlock) (h0 : W'.ownsRow B 9 1 v0' L'.length (L'.map encStr)) (hv : v0'.ownBlock = v0.ownBlock ∨ ∃ k, v0'.ownBlock = some k ∧ W.heap.size ≤ k) :
    TR (W'.setCell ⟨T, 0, none⟩ v0') B T v0' q v2 e p v5 L' line sh ∧ Fr (Bl T v0 v2 v5) W (W'.setCell ⟨T, 0, none⟩ v0') ∧ (∀ k, Bl T v0' v2 v5 k → Bl T v0 v2 v5 k ∨ W.heap.size ≤ k) := by
  have f := Fr.grown g
  have hT : W'.heap[T]? = _ := (f.block T (heap_lt h.hb) (fun hk => h.n0 T hk rfl)).trans h.hb
  have o2 := own_fr h.o2 f (fun k hk he => h.n02 k he hk)
  have o5 := ownF_fr h.o5 f (fun k hk he => h.n05 k he hk)
  refine ⟨⟨heap_set hT _ _, h.hp, own_fr h0 (Fr.one _ _ _ _) (by
    rintro k hk rfl
    obtain ⟨_, _, c, f, hc⟩ := own_type h0 hk
    exact types_ne hc hT (by decide)), own_fr o2 (Fr.one _ _ _ _) h.n2, ownF_fr o5 (Fr.one _ _ _ _) h.n5, h.n25, h.base, h.z5⟩, (f.mono fun k _ hk => .inr (.inl hk)).setCell (p := ⟨T, 0, none⟩) (.inl (.inl rfl)) _, ?_⟩
  rintro k (rfl | hk | hk | hk)
  · exact .inl (.inl rfl)
  · rcases hv with hv | ⟨j, hv, hj⟩
    · exact .inl (.inr (.inl (hv ▸ hk)))
    · rw [hv] at hk; cases hk; exact .inr hj
  · exact .inl (.inr (.inr (.inl hk)))
  · exact .inl (.inr (.inr (.inr hk)))
theorem TR.a2 (h : TR W B T v0 q v2 e p v5 L line sh) {v2' : Value} {line' : Bs} (g : W.grownBy W' v2.ownBlock) (h2 : W'.ownsRow B 5 1 v2' line'.length (Lib.byteCells line')) (hv : v2'.ownBlock = v2.ownBlock ∨ ∃ k, v2'.ownBlock = some k ∧ W.heap.size ≤ k) :
    TR (W'.setCell ⟨T, 2, none⟩ v2') B T v0 q v2' e p v5 L line' sh ∧ Fr (Bl T v0 v2 v5) W (W'.setCell ⟨T, 2, none⟩ v2') ∧ (∀ k, Bl T v0 v2' v5 k → Bl T v0 v2 v5 k ∨ W.heap.size ≤ k) := by
  have f := Fr.grown g
  have hT : W'.heap[T]? = _ := (f.block T (heap_lt h.hb) (fun hk => h.n2 T hk rfl)).trans h.hb
  have o0 := own_fr h.o0 f (fun k hk he => h.n02 k hk he)
  have o5 := ownF_fr h.o5 f (fun k hk he => h.n25 k he hk)
  refine ⟨⟨heap_set hT _ _, h.hp, own_fr o0 (Fr.one _ _ _ _) h.n0, own_fr h2 (Fr.one _ _ _ _) (by
    rintro k hk rfl
    obtain ⟨_, _, c, f, hc⟩ := own_type h2 hk
    exact types_ne hc hT (by decide)), ownF_fr o5 (Fr.one _ _ _ _) h.n5, ?_, h.base, h.z5⟩, (f.mono fun k _ hk => .inr (.inr (.inl hk))).setCell (p := ⟨T, 2, none⟩) (.inl (.inl rfl)) _, ?_⟩
  · intro k hk h5
    rcases hv with hv | ⟨j, hv, hj⟩
    · exact h.n25 k (hv ▸ hk) h5
    · rw [hv] at hk; cases hk
      have := (ownF_type h.o5 h5).2.1
      omega
  rintro k (rfl | hk | hk | hk)
  · exact .inl (.inl rfl)
  · exact .inl (.inr (.inl hk))
  · rcases hv with hv | ⟨j, hv, hj⟩
    · exact .inl (.inr (.inr (.inl (hv ▸ hk))))
    · rw [hv] at hk; cases hk; exact .inr hj
  · exact .inl (.inr (.inr (.inr hk)))
theorem TR.a5 (h : TR W B T v0 q v2 e p v5 L line sh) {v5' : Value} {sh' : Bs} (g : W.grownBy W' v5.ownBlock) (h5 : W'.ownsRowF B 5 1 v5' sh'.length (Lib.byteCells sh')) (hz : sh' = [] → v5' = .slice none 0 0) (hv : v5'.ownBlock = v5.ownBlock ∨ ∃ k, v5'.ownBlock = some k ∧ W.heap.size ≤ k) :
    TR (W'.setCell ⟨T, 5, none⟩ v5') B T v0 q v2 e p v5' L line sh' ∧ Fr (Bl T v0 v2 v5) W (W'.setCell ⟨T, 5, none⟩ v5') ∧ (∀ k, Bl T v0 v2 v5' k → Bl T v0 v2 v5 k ∨ W.heap.size ≤ k) := by
  have f := Fr.grown g
  have hT : W'.heap[T]? = _ := (f.block T (heap_lt h.hb) (fun hk => h.n5 T hk rfl)).trans h.hb
  have o0 := own_fr h.o0 f (fun k hk he => h.n05 k hk he)
  have o2 := own_fr h.o2 f (fun k hk he => h.n25 k hk he)
  refine ⟨⟨heap_set hT _ _, h.hp, own_fr o0 (Fr.one _ _ _ _) h.n0, own_fr o2 (Fr.one _ _ _ _) h.n2, ownF_fr h5 (Fr.one _ _ _ _) (by
    rintro k hk rfl
    obtain ⟨_, _, c, f, hc⟩ := ownF_type h5 hk
    exact types_ne hc hT (by decide)), ?_, h.base, hz⟩, (f.mono fun k _ hk => .inr (.inr (.inr hk))).setCell (p := ⟨T, 5, none⟩) (.inl (.inl rfl)) _, ?_⟩
  · intro k hk hk5
    rcases hv with hv | ⟨j, hv, hj⟩
    · exact h.n25 k hk (hv ▸ hk5)
    · rw [hv] at hk5; cases hk5
      have := (own_type h.o2 hk).2.1
      omega
  rintro k (rfl | hk | hk | hk)
  · exact .inl (.inl rfl)
  · exact .inl (.inr (.inl hk))
  · exact .inl (.inr (.inr (.inl hk)))
  · rcases hv with hv | ⟨j, hv, hj⟩
    · exact .inl (.inr (.inr (.inr (hv ▸ hk))))
    · rw [hv] at hk; cases hk; exact .inr hj
end
/-- a step on the blocks S, which are S' then. -/
def Step (S S' : Nat → Prop) (W W' : World) : Prop := Fr S W W' ∧ ∀ k, S' k → S k ∨ W.heap.size ≤ k
theorem Step.refl (S : Nat → Prop) (W : World) : Step S S W W := ⟨Fr.refl _ _, fun _ h => .inl h⟩
theorem Step.trans {S S1 S2 : Nat → Prop} {W W1 W2 : World} (h : Step S S1 W W1) (k : Step S1 S2 W1 W2) : Step S S2 W W2 := by
  refine ⟨⟨k.1.os.trans h.1.os, k.1.tape.trans h.1.tape, k.1.output.trans h.1.output, Nat.le_trans h.1.size k.1.size, fun i hi hn => (k.1.block i (Nat.lt_of_lt_of_le hi h.1.size) ?_).trans (h.1.block i hi hn)⟩, fun i hi => ?_⟩
  · intro h1
    rcases h.2 i h1 with h2 | h2
    · exact hn h2
    · omega
  · rcases k.2 i hi with h1 | h1
    · exact h.2 i h1
    · exact .inr (Nat.le_trans h.1.size h1)
theorem Step.fresh {S S1 : Nat → Prop} {W W1 W2 : World} (h : Step S S1 W W1) (k : Fr (fun _ => False) W1 W2) : Step S S1 W W2 :=
  h.trans ⟨k.mono fun _ _ h => h.elim, fun _ h => .inl h⟩
/-- the terminal s lies at T, on the blocks S. -/
def TAt (W : World) (B T : Nat) (S : Nat → Prop) (s : TS) : Prop :=
  ∃ v0 v2 v5 p, TR W B T v0 (cnt s.L : Nat) v2 s.echo p v5 s.L s.line s.shown ∧ S = Bl T v0 v2 v5
theorem TAt.lt {W : World} {B T : Nat} {S : Nat → Prop} {s : TS} (h : TAt W B T S s) {k : Nat} (hk : S k) : B ≤ k ∧ k < W.heap.size := by
  obtain ⟨v0, v2, v5, p, h1, rfl⟩ := h
  exact h1.lt hk
theorem TAt.fr {R : Nat → Prop} {W W' : World} {B T : Nat} {S : Nat → Prop} {s : TS} (h : TAt W B T S s) (f : Fr R W W') (hs : ∀ k, S k → ¬ R k) : TAt W' B T S s := by
  obtain ⟨v0, v2, v5, p, h1, rfl⟩ := h
  exact ⟨v0, v2, v5, p, h1.fr f hs, rfl⟩
theorem TAt.self {W : World} {B T : Nat} {S : Nat → Prop} {s : TS} (h : TAt W B T S s) : S T := by
  obtain ⟨v0, v2, v5, p, h1, rfl⟩ := h
  exact .inl rfl
end Go.Proofs.Ytojbgokbobkbdaa
