import Derived.Test.YtlpececggkdhmaaGreatM7
import Derived.WalkKit
import Derived.BigQuiet
import Derived.Test.YtlpececggkdhmaaGreatM18
import Derived.Deep.CutBlock
import Derived.Test.YtlpececggkdhmaaGreatRows
import Derived.Test.YtlpececggkdhmaaGreatM24
import Derived.Deep.Slices
import Derived.DataReads
import Derived.Deep.Fields
import Derived.ChangeSame
import Derived.Test.YtlpececggkdhmaaGreatM11
import Derived.Test.YtlpececggkdhmaaGreatN1
import Derived.Test.YtlpececggkdhmaaGreatN6
import Derived.Test.YtlpececggkdhmaaGreatN20
import Derived.Test.YtlpececggkdhmaaGreatN24
open Go.Lib (hid)
set_option linter.unusedVariables false
set_option linter.unusedSimpArgs false
namespace Go.Proofs.YtlpececggkdhmaaGreat
section
open Go.RowKit Ino
def Dr (w w' : World) : Prop := ∃ n, w' = w.drewN n
theorem Dr.refl (w : World) : Dr w w := ⟨0, rfl⟩
theorem Dr.below {w w' : World} (h : Dr w w') : Below w.heap.size w w' := by
 obtain ⟨n, rfl⟩ := h
 exact ⟨rfl, rfl, rfl, Nat.le_refl _, fun _ _ => rfl⟩
def Rd (w : World) (v : Value) (l : List (Bs)) : Prop :=
 ∃ p cap, v = .slice p l.length cap ∧ l.length ≤ cap ∧ cap ≤ maxLen ∧ ∀ j x, l[j]? = some x → ∃ g, p = some ⟨g, 0, none⟩ ∧ w.cell? ⟨g, j, none⟩ = some (strC x)
theorem Rd.of_row {w : World} {base : Nat} {v : Value} {l : List (Bs)} (h : w.ownsRow base 9 1 v l.length (l.map strC)) : Rd w v l := by
 rcases h.2 with ⟨hv, h0⟩ | ⟨g, cap, cur, hv, hb, hg, hn, hc, hs, ht⟩
 ·have := List.length_eq_zero_iff.1 h0
  subst this
  exact ⟨none, 0, hv, Nat.le_refl _, Nat.zero_le _, fun j x hx => by simp at hx⟩
 ·refine ⟨_, cap, hv, hn, hc, fun j x hx => ⟨g, rfl, ?_⟩⟩
  subst hv
  have hj := (List.getElem?_eq_some_iff.1 hx).1
  rw [h.cellAt j (by omega), List.getElem?_map, hx]; rfl
theorem Rd.below {w w' : World} {v : Value} {l : List (Bs)} (h : Rd w v l) (hb : Below w.heap.size w w') : Rd w' v l := by
 obtain ⟨p, cap, hv, h1, h2, h3⟩ := h
 refine ⟨p, cap, hv, h1, h2, fun j x hx => ?_⟩
 obtain ⟨g, hp, hc⟩ := h3 j x hx
 exact ⟨g, hp, (hb.cell (p := ⟨g, j, none⟩) (cell_lt hc)).trans hc⟩
def sameRel (a b : List (Bs)) (w : World) (i : Value) (wr : World) : Prop := ∃ k : Nat, k ≤ a.length ∧ i = .int .i64 k ∧ Dr w wr ∧ a.take k = b.take k
end
section
open Go.RowKit Ino Go.Maps
variable {w0 w : World} {A C B : Nat} {t : T} {K : Nat → Prop}
def infObj7 (ni kd md ow gr nl sz ty : Int) : Obj := .cells #[.int .i64 ni, .int .i64 kd, .int .i64 md, .int .i64 ow, .int .i64 gr, .int .i64 nl, .int .i64 sz, .int .i64 ty] 50
def smRel (K : Nat → Prop) (w0 : World) (A C B : Nat) (t : T) (iv : Value) (wr : World) : Prop := ∃ i : Nat, iv = .int .i64 i ∧ 1 ≤ i ∧ i ≤ 21 ∧ TW K w0 wr A C B t t
end
section
open Go.RowKit Go.ChangeShapes Go.WideShapes Go.Deep Ino
theorem bulk_part7 {H : Type} {d : DataW H} {l : List (DataW H)} (h : d ∈ l) : Rows.uptoBulk d ≤ Rows.uptoBulkAll l := by
 induction l with
 | nil => cases h
 | cons x r ih =>
  simp only [Rows.uptoBulkAll]
  cases List.mem_cons.1 h with
  | inl e => subst e; omega
  | inr e => have := ih e; omega
theorem size_len7 (s : ByteArray) : s.data.toList.length = s.size := by simp
structure Op7.In (o : Op7) : Prop where
 s : o.s.size ≤ 1048576
 x : o.x.size ≤ 1048576
 m : wfI o.m
 b : -9223372036854775808 ≤ o.b ∧ o.b ≤ 9223372036854775807
theorem list10 {l : List Value} (h : l.length = 10) : ∃ a b c d e f g h i j, l = [a, b, c, d, e, f, g, h, i, j] := by
 match l, h with
 | [a, b, c, d, e, f, g, h, i, j], _ => exact ⟨a, b, c, d, e, f, g, h, i, j, rfl⟩
theorem op7T : Tryz.prog.underlying 29 = some (.struct (Tryz.prog.fieldsOf 29)) := by kernel_rfl
section
variable {H : Type} {enc : TypeId × Value → H} {w : World} {base : Nat} {spare : Nat → Bool} {held : Bool}
set_option maxHeartbeats 1000000 in
theorem cells_op7 {n : Nat} {cs : List Value} {y : DataW H × List MemPlace} (hy : DataW.trod enc Tryz.prog w base spare held n 29 cs = some y) (hM : Rows.uptoBulk y.1 ≤ 1048576) : ∃ u : Op7, cs = u.cells ∧ u.In := by
 obtain ⟨xs, mm, _, hx, hl, hxl, hf⟩ := DataW.trod_struct op7T hy
 rw [show Tryz.prog.cellsOf 29 = 10 by kernel_rfl] at hl
 obtain ⟨a, b, c, d, e, f, g, h, i, j, rfl⟩ := list10 hl
 have hs : (Tryz.prog.fieldsOf 29).size = 10 := by kernel_rfl
 have key : ∀ (q : Nat) (o : Nat) (t : TypeId), q < 10 → ((Tryz.prog.fieldsOf 29)[q]?.map fun g => (g.offset, g.type)) = some (o, t) → ∃ y, DataW.trod enc Tryz.prog w base spare held mm t (([a, b, c, d, e, f, g, h, i, j].drop o).take (Tryz.prog.cellsOf t)) = some y ∧ y ∈ xs := by
  intro q o t hi ht
  cases hg : (Tryz.prog.fieldsOf 29)[q]? with
  | none => rw [hg] at ht; cases ht
  | some g =>
   rw [hg] at ht
   cases ht
   exact ⟨xs[q]'(by omega), by rw [hf q g hg]; exact List.getElem?_eq_getElem _, List.getElem_mem _⟩
 have c9 : Tryz.prog.cellsOf 9 = 1 := by kernel_rfl
 have c3 : Tryz.prog.cellsOf 3 = 1 := by kernel_rfl
 obtain ⟨y0, h0, m0⟩ := key 0 0 3 (by decide) (by kernel_rfl)
 obtain ⟨y1, h1, m1⟩ := key 1 1 3 (by decide) (by kernel_rfl)
 obtain ⟨y2, h2, m2⟩ := key 2 2 3 (by decide) (by kernel_rfl)
 obtain ⟨y3, h3, m3⟩ := key 3 3 3 (by decide) (by kernel_rfl)
 obtain ⟨y4, h4, m4⟩ := key 4 4 9 (by decide) (by kernel_rfl)
 obtain ⟨y5, h5, m5⟩ := key 5 5 9 (by decide) (by kernel_rfl)
 obtain ⟨y6, h6, m6⟩ := key 6 6 3 (by decide) (by kernel_rfl)
 obtain ⟨y7, h7, m7⟩ := key 7 7 3 (by decide) (by kernel_rfl)
 obtain ⟨y8, h8, m8⟩ := key 8 8 3 (by decide) (by kernel_rfl)
 obtain ⟨y9, h9, m9⟩ := key 9 9 3 (by decide) (by kernel_rfl)
 rw [c9] at h4 h5
 rw [c3] at h0 h1 h2 h3 h6 h7 h8 h9
 obtain ⟨n0, e0, _, k0⟩ := DataW.trod_int Tryz.underlying3 h0
 obtain ⟨n1, e1, _, k1⟩ := DataW.trod_int Tryz.underlying3 h1
 obtain ⟨n2, e2, _, k2⟩ := DataW.trod_int Tryz.underlying3 h2
 obtain ⟨n3, e3, _, k3⟩ := DataW.trod_int Tryz.underlying3 h3
 obtain ⟨n4, e4, z4, k4⟩ := DataW.trod_string Tryz.underlying9 h4
 obtain ⟨n5, e5, z5, k5⟩ := DataW.trod_string Tryz.underlying9 h5
 obtain ⟨n6, e6, _, k6⟩ := DataW.trod_int Tryz.underlying3 h6
 obtain ⟨n7, e7, _, k7⟩ := DataW.trod_int Tryz.underlying3 h7
 obtain ⟨n8, e8, _, k8⟩ := DataW.trod_int Tryz.underlying3 h8
 obtain ⟨n9, e9, _, k9⟩ := DataW.trod_int Tryz.underlying3 h9
 simp at e0 e1 e2 e3 e4 e5 e6 e7 e8 e9
 subst e0 e1 e2 e3 e4 e5 e6 e7 e8 e9
 have g4 := bulk_part7 (List.mem_map_of_mem (f := (·.1)) m4)
 have g5 := bulk_part7 (List.mem_map_of_mem (f := (·.1)) m5)
 rw [z4] at g4
 rw [z5] at g5
 rw [hx] at hM
 simp only [Rows.uptoBulk, size_len7] at g4 g5 hM
 exact ⟨⟨n0, n1, n2, n3, n4, n5, n6, n7, n8, n9⟩, rfl, ⟨by show n4.size ≤ _; omega, by show n5.size ≤ _; omega, int_wf2 k6, int_wf2 k9⟩⟩
theorem open_st_b {α : Type} [Inhabited α] (mk : α → List Value) (ok : α → Prop) (c : Nat) (M : Nat) (hc0 : 0 < c) (hmk : ∀ a, (mk a).length = c) {t e : TypeId} (ht : Tryz.prog.underlying t = some (.slice e)) (hc : Tryz.prog.cellsOf e = c)
 (inv : ∀ (n : Nat) (cs : List Value) (y : DataW H × List MemPlace), DataW.trod enc Tryz.prog w base (fun _ => true) held n e cs = some y → Rows.uptoBulk y.1 ≤ M → ∃ z, cs = mk z ∧ ok z)
 {n : Nat} {p : Option Addr} {len cap : Nat} {x : DataW H × List MemPlace} (h : DataW.trod enc Tryz.prog w base (fun _ => true) held n t [.slice p len cap] = some x) (hM : Rows.uptoBulk x.1 ≤ M) :
 ∃ zs, InSt mk ok c w p len zs ∧ len ≤ maxLen := by
 rcases open_slice ht h with ⟨hcs, _⟩ | ⟨a, len', cap', m, n', D, Pl, hcs, _, hl, hm, hmm, hx, hi⟩
 ·cases hcs
  exact ⟨[], ⟨rfl, fun j u hj => by cases hj⟩, Nat.zero_le _⟩
 ·cases hcs
  have hmm' : m = cap := hmm
  subst hmm'
  rw [hc] at hi
  rw [hx] at hM
  simp only [Rows.uptoBulk] at hM
  have hu : ∀ i, i < len → ∃ u : α, ok u ∧ ∀ j v, (mk u)[j]? = some v → w.cell? ((a.add (i * c)).add j) = some v := by
   intro i him
   obtain ⟨cs', hc', ht'⟩ := hi i (by omega)
   have hmem : D i ∈ (List.range len).map D := List.mem_map_of_mem (List.mem_range.2 him)
   have g := bulk_part7 hmem
   obtain ⟨u, hu, hok⟩ := inv _ _ _ ht' (by show Rows.uptoBulk (D i) ≤ M; omega)
   obtain ⟨_, hcl, hat⟩ := World.cells?_some hc'
   refine ⟨u, hok, fun j v hj => ?_⟩
   have hj3 : j < c := by rw [← hmk u]; exact (List.getElem?_eq_some_iff.1 hj).1
   rw [hat j hj3, hu, hj]
  have hex : ∃ f : Nat → α, ∀ i, i < len → ok (f i) ∧ ∀ j v, (mk (f i))[j]? = some v → w.cell? ((a.add (i * c)).add j) = some v :=
   ⟨fun i => if h : i < len then Classical.choose (hu i h) else default, fun i h => by
    simp only [dif_pos h]; exact Classical.choose_spec (hu i h)⟩
  obtain ⟨f, hf⟩ := hex
  refine ⟨(List.range len).map f, ⟨by simp, fun j u hj => ?_⟩, by omega⟩
  have hjl : j < len := by have := (List.getElem?_eq_some_iff.1 hj).1; simpa using this
  rw [List.getElem?_map, List.getElem?_range hjl] at hj
  cases hj
  obtain ⟨v0, hv0⟩ : ∃ v, (mk (f 0))[0]? = some v := ⟨_, List.getElem?_eq_getElem (by rw [hmk]; exact hc0)⟩
  have h0 := (hf 0 (by omega)).2 0 _ hv0
  rw [Nat.zero_mul] at h0
  have hz : ∀ x : Addr, x.add 0 = x := fun x => if_pos rfl
  rw [hz, hz] at h0
  obtain ⟨b, off, rfl⟩ := addr_plain h0
  obtain ⟨hok, hj2⟩ := hf j (by omega)
  refine ⟨hok, b, off, rfl, fun i v hv => ?_⟩
  have := hj2 i v hv
  rw [Addr.add_lit, Addr.add_lit] at this
  exact this
abbrev InOps7 := InSt Op7.cells Op7.In 10
theorem open_ops7 {n : Nat} {p : Option Addr} {len cap : Nat} {x : DataW H × List MemPlace} (h : DataW.trod enc Tryz.prog w base (fun _ => true) held n 22 [.slice p len cap] = some x) (hM : Rows.uptoBulk x.1 ≤ 1048576) : ∃ zs, InOps7 w p len zs ∧ len ≤ maxLen :=
 open_st_b Op7.cells Op7.In 10 1048576 (by decide) (fun _ => rfl) Tryz.underlying22 (by kernel_rfl) (fun n cs y h hb => cells_op7 h hb) h hM
end
end
section
open Go.RowKit Ino Go.Maps
def playRel7 (w : World) (A C B : Nat) (iv : Value) (wr : World) : Prop := ∃ (k : Nat) (t : T), iv = .int .i64 k ∧ k ≤ 80 ∧ TW (KB w) w wr A C B t t ∧ Inv k t
end
end Go.Proofs.YtlpececggkdhmaaGreat
