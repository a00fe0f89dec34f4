/- Arguments that are slices; both pipes in memory. -/
import Derived.Test.YthgjhpiajjamnaaKH
import Derived.Deep.Slices
import Derived.DataReads
import Derived.Deep.Fields
import Derived.ChangeSame
namespace Go.Proofs.Ythgjhpiajjamnaa
open Go.RowKit Go.ChangeShapes Go.WideShapes Go.Deep
set_option linter.unusedVariables false
set_option linter.unusedSimpArgs false

abbrev wfI (n : Int) : Prop := -9223372036854775808 ≤ n ∧ n ≤ 9223372036854775807
theorem int_wf2 {n : Int} (h : (Lit.int .i64 n).wf = true) : -9223372036854775808 ≤ n ∧ n ≤ 9223372036854775807 := by
  simp [Lit.wf] at h
  exact h
/-- a slice that reads as these. -/
def InRow {α : Type} (mk : α → Value) (ok : α → Prop) (W : World) (p : Option Addr) (n : Nat) (zs : List α) : Prop :=
  zs.length = n ∧ ∀ (j : Nat) (z : α), zs[j]? = some z → ∃ g off, p = some ⟨g, off, none⟩ ∧ W.cell? ⟨g, off + j, none⟩ = some (mk z) ∧ ok z
abbrev InStrs := InRow Value.string (fun s : ByteArray => s.size ≤ maxLen)
abbrev InInts := InRow (Value.int .i64) wfI
theorem addr_plain {W : World} {a : Addr} {v0 : Value} (h0 : W.cell? a = some v0) : ∃ b off, a = ⟨b, off, none⟩ := by
  obtain ⟨b, off, spot⟩ := a
  have hs2 : spot = none := World.cell?_spot h0
  subst hs2
  exact ⟨b, off, rfl⟩
section
variable {H : Type} {enc : TypeId × Value → H} {w : World} {base : Nat} {held : Bool}
theorem open_row {α : Type} [Inhabited α] (mk : α → Value) (ok : α → Prop) {t e : TypeId} (ht : Try.prog.underlying t = some (.slice e)) (hc : Try.prog.cellsOf e = 1)
    (inv : ∀ (n : Nat) (cs : List Value) (y : DataW H × List MemPlace), DataW.trod enc Try.prog w base (fun _ => true) held n e cs = some y → ∃ z, cs = [mk z] ∧ ok z)
    {n : Nat} {p : Option Addr} {len cap : Nat} {x : DataW H × List MemPlace} (h : DataW.trod enc Try.prog w base (fun _ => true) held n t [.slice p len cap] = some x) :
    ∃ zs, InRow mk ok w p len zs ∧ len ≤ maxLen := by
  rcases open_slice ht h with ⟨hcs, _⟩ | ⟨a, len', cap', m, n', D, Pl, hcs, _, hl, hm, hmm, _, hi⟩
  · cases hcs
    exact ⟨[], ⟨rfl, fun j u hj => by cases hj⟩, Nat.zero_le _⟩
  · cases hcs
    have hmm' : m = cap := hmm
    subst hmm'
    rw [hc] at hi
    have hu : ∀ i, i < m → ∃ u : α, w.cell? (a.add (i * 1)) = some (mk u) ∧ ok u := by
      intro i him
      obtain ⟨cs', hc', ht'⟩ := hi i him
      obtain ⟨u, hu, hok⟩ := inv _ _ _ ht'
      obtain ⟨_, hcl, hat⟩ := World.cells?_some hc'
      refine ⟨u, ?_, hok⟩
      have := hat 0 (by decide)
      rw [hu] at this
      have hz : ∀ x : Addr, x.add 0 = x := fun x => if_pos rfl
      rw [hz] at this
      exact this
    have hex : ∃ f : Nat → α, ∀ i, i < m → w.cell? (a.add (i * 1)) = some (mk (f i)) ∧ ok (f i) :=
      ⟨fun i => if h : i < m then Classical.choose (hu i h) else default, fun i h => by
        simp only [dif_pos h]; exact Classical.choose_spec (hu i h)⟩
    obtain ⟨f, hf⟩ := hex
    refine ⟨(List.range len).map f, ⟨by simp, fun j u hj => ?_⟩, by omega⟩
    have hjl : j < len := by have := (List.getElem?_eq_some_iff.1 hj).1; simpa using this
    rw [List.getElem?_map, List.getElem?_range hjl] at hj
    cases hj
    have h0 := (hf 0 (by omega)).1
    rw [Nat.zero_mul] at h0
    have hz : ∀ x : Addr, x.add 0 = x := fun x => if_pos rfl
    rw [hz] at h0
    obtain ⟨b, off, rfl⟩ := addr_plain h0
    have hj2 := hf j (by omega)
    rw [Nat.mul_one, Addr.add_lit] at hj2
    exact ⟨b, off, rfl, hj2⟩
theorem open_strs {n : Nat} {p : Option Addr} {len cap : Nat} {x : DataW H × List MemPlace} (h : DataW.trod enc Try.prog w base (fun _ => true) held n 42 [.slice p len cap] = some x) : ∃ zs, InStrs w p len zs ∧ len ≤ maxLen :=
  open_row Value.string _ Try.underlying42 (by kernel_rfl) (fun n cs y h => by obtain ⟨s, h1, _, h2⟩ := DataW.trod_string Try.underlying9 h; exact ⟨s, h1, h2⟩) h
theorem open_intz {n : Nat} {p : Option Addr} {len cap : Nat} {x : DataW H × List MemPlace} (h : DataW.trod enc Try.prog w base (fun _ => true) held n 43 [.slice p len cap] = some x) : ∃ zs, InInts w p len zs ∧ len ≤ maxLen :=
  open_row (Value.int .i64) _ Try.underlying43 (by kernel_rfl) (fun n cs y h => by obtain ⟨s, h1, _, h2⟩ := DataW.trod_int Try.underlying3 h; exact ⟨s, h1, int_wf2 h2⟩) h
end
/-- a slice of structs that reads as these. -/
def InSt {α : Type} (mk : α → List Value) (ok : α → Prop) (c : Nat) (W : World) (p : Option Addr) (n : Nat) (zs : List α) : Prop :=
  zs.length = n ∧ ∀ (j : Nat) (z : α), zs[j]? = some z → ok z ∧ ∃ g off, p = some ⟨g, off, none⟩ ∧ ∀ (i : Nat) (v : Value), (mk z)[i]? = some v → W.cell? ⟨g, off + j * c + i, none⟩ = some v
section
variable {H : Type} {enc : TypeId × Value → H} {w : World} {base : Nat} {held : Bool}
theorem open_st {α : Type} [Inhabited α] (mk : α → List Value) (ok : α → Prop) (c : Nat) (hc0 : 0 < c) (hmk : ∀ a, (mk a).length = c) {t e : TypeId} (ht : Try.prog.underlying t = some (.slice e)) (hc : Try.prog.cellsOf e = c)
    (inv : ∀ (n : Nat) (cs : List Value) (y : DataW H × List MemPlace), DataW.trod enc Try.prog w base (fun _ => true) held n e cs = some y → ∃ z, cs = mk z ∧ ok z)
    {n : Nat} {p : Option Addr} {len cap : Nat} {x : DataW H × List MemPlace} (h : DataW.trod enc Try.prog w base (fun _ => true) held n t [.slice p len cap] = some x) :
    ∃ zs, InSt mk ok c w p len zs ∧ len ≤ maxLen := by
  rcases open_slice ht h with ⟨hcs, _⟩ | ⟨a, len', cap', m, n', D, Pl, hcs, _, hl, hm, hmm, _, hi⟩
  · cases hcs
    exact ⟨[], ⟨rfl, fun j u hj => by cases hj⟩, Nat.zero_le _⟩
  · cases hcs
    have hmm' : m = cap := hmm
    subst hmm'
    rw [hc] at hi
    have hu : ∀ i, i < m → ∃ u : α, ok u ∧ ∀ j v, (mk u)[j]? = some v → w.cell? ((a.add (i * c)).add j) = some v := by
      intro i him
      obtain ⟨cs', hc', ht'⟩ := hi i him
      obtain ⟨u, hu, hok⟩ := inv _ _ _ ht'
      obtain ⟨_, hcl, hat⟩ := World.cells?_some hc'
      refine ⟨u, hok, fun j v hj => ?_⟩
      have hj3 : j < c := by rw [← hmk u]; exact (List.getElem?_eq_some_iff.1 hj).1
      rw [hat j hj3, hu, hj]
    have hex : ∃ f : Nat → α, ∀ i, i < m → ok (f i) ∧ ∀ j v, (mk (f i))[j]? = some v → w.cell? ((a.add (i * c)).add j) = some v :=
      ⟨fun i => if h : i < m then Classical.choose (hu i h) else default, fun i h => by
        simp only [dif_pos h]; exact Classical.choose_spec (hu i h)⟩
    obtain ⟨f, hf⟩ := hex
    refine ⟨(List.range len).map f, ⟨by simp, fun j u hj => ?_⟩, by omega⟩
    have hjl : j < len := by have := (List.getElem?_eq_some_iff.1 hj).1; simpa using this
    rw [List.getElem?_map, List.getElem?_range hjl] at hj
    cases hj
    obtain ⟨v0, hv0⟩ : ∃ v, (mk (f 0))[0]? = some v := ⟨_, List.getElem?_eq_getElem (by rw [hmk]; exact hc0)⟩
    have h0 := (hf 0 (by omega)).2 0 _ hv0
    rw [Nat.zero_mul] at h0
    have hz : ∀ x : Addr, x.add 0 = x := fun x => if_pos rfl
    rw [hz, hz] at h0
    obtain ⟨b, off, rfl⟩ := addr_plain h0
    obtain ⟨hok, hj2⟩ := hf j (by omega)
    refine ⟨hok, b, off, rfl, fun i v hv => ?_⟩
    have := hj2 i v hv
    rw [Addr.add_lit, Addr.add_lit] at this
    exact this
/-- a step. -/
structure OpP where
  kind : Int
  n : Int
  b : Bool
  s : ByteArray
instance : Inhabited OpP := ⟨⟨0, 0, false, ⟨#[]⟩⟩⟩
def OpP.cells (o : OpP) : List Value := [.int .i64 o.kind, .int .i64 o.n, .bool o.b, .string o.s]
structure OpP.Ok (o : OpP) : Prop where
  kind : wfI o.kind
  n : wfI o.n
  s : o.s.size ≤ maxLen
theorem list4 {l : List Value} (h : l.length = 4) : ∃ a b c d, l = [a, b, c, d] := by
  match l, h with
  | [a, b, c, d], _ => exact ⟨a, b, c, d, rfl⟩
theorem opPT : Try.prog.underlying 29 = some (.struct (Try.prog.fieldsOf 29)) := by kernel_rfl
theorem cells_opP {n : Nat} {cs : List Value} {x : DataW H × List MemPlace} {spare : Nat → Bool} (h : DataW.trod enc Try.prog w base spare held n 29 cs = some x) : ∃ u : OpP, cs = u.cells ∧ u.Ok := by
  obtain ⟨xs, m, _, _, hl, hxl, hf⟩ := DataW.trod_struct opPT h
  rw [show Try.prog.cellsOf 29 = 4 by kernel_rfl] at hl
  obtain ⟨a, b, c, d, rfl⟩ := list4 hl
  have hs : (Try.prog.fieldsOf 29).size = 4 := by kernel_rfl
  have key : ∀ (i : Nat) (o : Nat) (t : TypeId), i < 4 → ((Try.prog.fieldsOf 29)[i]?.map fun g => (g.offset, g.type)) = some (o, t) → ∃ y, DataW.trod enc Try.prog w base spare held m t (([a, b, c, d].drop o).take (Try.prog.cellsOf t)) = some y := by
    intro i o t hi ht
    cases hg : (Try.prog.fieldsOf 29)[i]? with
    | none => rw [hg] at ht; cases ht
    | some g =>
      rw [hg] at ht
      cases ht
      exact ⟨xs[i]'(by omega), by rw [hf i g hg]; exact List.getElem?_eq_getElem _⟩
  have c9 : Try.prog.cellsOf 9 = 1 := by kernel_rfl
  have c3 : Try.prog.cellsOf 3 = 1 := by kernel_rfl
  have c4 : Try.prog.cellsOf 4 = 1 := by kernel_rfl
  obtain ⟨_, h0⟩ := key 0 0 3 (by decide) (by kernel_rfl)
  obtain ⟨_, h1⟩ := key 1 1 3 (by decide) (by kernel_rfl)
  obtain ⟨_, h2⟩ := key 2 2 4 (by decide) (by kernel_rfl)
  obtain ⟨_, h3⟩ := key 3 3 9 (by decide) (by kernel_rfl)
  rw [c9] at h3
  rw [c4] at h2
  rw [c3] at h0 h1
  obtain ⟨n0, e0, _, k0⟩ := DataW.trod_int Try.underlying3 h0
  obtain ⟨n1, e1, _, k1⟩ := DataW.trod_int Try.underlying3 h1
  obtain ⟨b2, e2, _⟩ := DataW.trod_bool Try.underlying4 h2
  obtain ⟨s3, e3, _, k3⟩ := DataW.trod_string Try.underlying9 h3
  simp at e0 e1 e2 e3
  subst e0 e1 e2 e3
  exact ⟨⟨n0, n1, b2, s3⟩, rfl, int_wf2 k0, int_wf2 k1, k3⟩
abbrev InOps := InSt OpP.cells OpP.Ok 4
theorem open_ops {n : Nat} {p : Option Addr} {len cap : Nat} {x : DataW H × List MemPlace} (h : DataW.trod enc Try.prog w base (fun _ => true) held n 22 [.slice p len cap] = some x) : ∃ zs, InOps w p len zs ∧ len ≤ maxLen :=
  open_st OpP.cells OpP.Ok 4 (by decide) (fun _ => rfl) Try.underlying22 (by kernel_rfl) (fun n cs y h => cells_opP h) h
end
variable {w0 W W' : World} {P B rd wr rd' wr' : Nat} {l l' : Bs}
/-- both pipes above the blocks of w0. -/
structure DW (w0 W : World) (P B : Nat) (l : Bs) (rd wr : Nat) (l' : Bs) (rd' wr' : Nat) : Prop where
  p : PAt W P l rd wr
  r : RAt W B l' rd' wr'
  ne : P ≠ B
  hP : w0.heap.size ≤ P
  hB : w0.heap.size ≤ B
  bel : Below w0.heap.size w0 W
abbrev FD (P B : Nat) := Fr (fun g => g = P ∨ g = B)
theorem DW.stepP (h : DW w0 W P B l rd wr l' rd' wr') {l2 : Bs} {rd2 wr2 : Nat} (k : PAt W' P l2 rd2 wr2) (f : Fr (· = P) W W') : DW w0 W' P B l2 rd2 wr2 l' rd' wr' ∧ FD P B W W' :=
  ⟨⟨k, h.r.fr f (Ne.symm h.ne), h.ne, h.hP, h.hB, f.below h.bel (Nat.le_refl _) fun g hg => by subst hg; exact h.hP⟩, f.mono fun g _ hg => .inl hg⟩
theorem DW.stepR (h : DW w0 W P B l rd wr l' rd' wr') {l2 : Bs} {rd2 wr2 : Nat} (k : RAt W' B l2 rd2 wr2) (f : Fr (· = B) W W') : DW w0 W' P B l rd wr l2 rd2 wr2 ∧ FD P B W W' :=
  ⟨⟨h.p.fr f h.ne, k, h.ne, h.hP, h.hB, f.below h.bel (Nat.le_refl _) fun g hg => by subst hg; exact h.hB⟩, f.mono fun g _ hg => .inr hg⟩
theorem DW.fresh (h : DW w0 W P B l rd wr l' rd' wr') (f : Below W.heap.size W W') : DW w0 W' P B l rd wr l' rd' wr' :=
  ⟨h.p.fr (Fr.of_below (S := fun _ => False) f) id, h.r.fr (Fr.of_below (S := fun _ => False) f) id, h.ne, h.hP, h.hB, h.bel.trans (f.mono h.bel.size)⟩
theorem dp_join (b : Bool) (h : DW w0 W P B l rd wr l' rd' wr') (h1 : rd < 1000000) (h2 : wr < 1000000) :
    Calls Try.prog 9 #[.pointer (some ⟨P, 0, none⟩), .bool b] W fun e w' => e = .returned (.tuple #[]) ∧ DW w0 w' P B l (if b then rd else rd + 1) (if b then wr + 1 else wr) l' rd' wr' ∧ FD P B W w' :=
  (pa_join b W h.p h1 h2).mono fun e w' ⟨e1, e2, e3⟩ => ⟨e1, h.stepP e2 e3⟩
theorem dr_join (b : Bool) (h : DW w0 W P B l rd wr l' rd' wr') (h1 : rd' < 1000000) (h2 : wr' < 1000000) :
    Calls Try.prog 10 #[.pointer (some ⟨B, 0, none⟩), .bool b] W fun e w' => e = .returned (.tuple #[]) ∧ DW w0 w' P B l rd wr l' (if b then rd' else rd' + 1) (if b then wr' + 1 else wr') ∧ FD P B W w' :=
  (ra_join b W h.r h1 h2).mono fun e w' ⟨e1, e2, e3⟩ => ⟨e1, h.stepR e2 e3⟩
theorem dp_leave (b : Bool) (h : DW w0 W P B l rd wr l' rd' wr') (h1 : rd < 1000000) (h2 : wr < 1000000) :
    Calls Try.prog 11 #[.pointer (some ⟨P, 0, none⟩), .bool b] W fun e w' => e = .returned (.bool (decide (0 < if b then wr else rd))) ∧ DW w0 w' P B l (if b then rd else rd - 1) (if b then wr - 1 else wr) l' rd' wr' ∧ FD P B W w' :=
  (pa_leave b W h.p h1 h2).mono fun e w' ⟨e1, e2, e3⟩ => ⟨e1, h.stepP e2 e3⟩
theorem dr_leave (b : Bool) (h : DW w0 W P B l rd wr l' rd' wr') (h1 : rd' < 1000000) (h2 : wr' < 1000000) :
    Calls Try.prog 12 #[.pointer (some ⟨B, 0, none⟩), .bool b] W fun e w' => e = .returned (.bool (decide (0 < if b then wr' else rd'))) ∧ DW w0 w' P B l rd wr l' (if b then rd' else rd' - 1) (if b then wr' - 1 else wr') ∧ FD P B W w' :=
  (ra_leave b W h.r h1 h2).mono fun e w' ⟨e1, e2, e3⟩ => ⟨e1, h.stepR e2 e3⟩
/-- what Write tells, and the row behind it. -/
def wrN (l : Bs) (rd : Nat) (s : ByteArray) : Int := if rd = 0 then 0 else ((wrL l s).length : Nat)
def wrE (rd : Nat) : Int := if rd = 0 then 14 else 0
def wrR (l : Bs) (rd : Nat) (s : ByteArray) : Bs := if rd = 0 then l else l ++ wrL l s
theorem dp_write (s : ByteArray) (hs : s.size ≤ maxLen) (h : DW w0 W P B l rd wr l' rd' wr') (h1 : rd < 1000000) :
    Calls Try.prog 13 #[.pointer (some ⟨P, 0, none⟩), .string s] W fun e w' => e = .returned (.tuple #[.int .i64 (wrN l rd s), .int .i64 (wrE rd)]) ∧ DW w0 w' P B (wrR l rd s) rd wr l' rd' wr' ∧ FD P B W w' := by
  by_cases h0 : rd = 0
  · subst h0
    exact (pa_write0 s W h.p).mono fun e w' ⟨e1, e2, e3⟩ => ⟨e1, h.stepP e2 e3⟩
  · unfold wrN wrE wrR
    rw [if_neg h0, if_neg h0, if_neg h0]
    exact (pa_write s hs W h.p (by omega) h1).mono fun e w' ⟨e1, e2, e3⟩ => ⟨e1, h.stepP e2 e3⟩
theorem dr_write (s : ByteArray) (hs : s.size ≤ maxLen) (h : DW w0 W P B l rd wr l' rd' wr') (h1 : rd' < 1000000) :
    Calls Try.prog 14 #[.pointer (some ⟨B, 0, none⟩), .string s] W fun e w' => e = .returned (.tuple #[.int .i64 (wrN l' rd' s), .int .i64 (wrE rd')]) ∧ DW w0 w' P B l rd wr (wrR l' rd' s) rd' wr' ∧ FD P B W w' := by
  by_cases h0 : rd' = 0
  · subst h0
    exact (ra_write0 s W h.r).mono fun e w' ⟨e1, e2, e3⟩ => ⟨e1, h.stepR e2 e3⟩
  · unfold wrN wrE wrR
    rw [if_neg h0, if_neg h0, if_neg h0]
    exact (ra_write s hs W h.r (by omega) h1).mono fun e w' ⟨e1, e2, e3⟩ => ⟨e1, h.stepR e2 e3⟩
theorem dp_read (N : Int) (h : DW w0 W P B l rd wr l' rd' wr') :
    Calls Try.prog 15 #[.pointer (some ⟨P, 0, none⟩), .int .i64 N] W fun e w' => e = .returned (.tuple #[.string ⟨(l.take (readK N l.length)).toArray⟩, .bool (endB l.length (readK N l.length) wr)]) ∧ DW w0 w' P B (l.drop (readK N l.length)) rd wr l' rd' wr' ∧ FD P B W w' :=
  (pa_read N W h.p).mono fun e w' ⟨e1, e2, e3⟩ => ⟨e1, h.stepP e2 e3⟩
theorem dr_read (N : Int) (h : DW w0 W P B l rd wr l' rd' wr') :
    Calls Try.prog 16 #[.pointer (some ⟨B, 0, none⟩), .int .i64 N] W fun e w' => e = .returned (.tuple #[.string ⟨(l'.take (readK N l'.length)).toArray⟩, .bool (endB l'.length (readK N l'.length) wr')]) ∧ DW w0 w' P B l rd wr (l'.drop (readK N l'.length)) rd' wr' ∧ FD P B W w' :=
  (ra_read N W h.r).mono fun e w' ⟨e1, e2, e3⟩ => ⟨e1, h.stepR e2 e3⟩
theorem dp_state (h : DW w0 W P B l rd wr l' rd' wr') :
    Calls Try.prog 17 #[.pointer (some ⟨P, 0, none⟩)] W fun e w' => e = .returned (.tuple #[.int .i64 rd, .int .i64 wr, .int .i64 (l.length : Nat)]) ∧ DW w0 w' P B l rd wr l' rd' wr' ∧ FD P B W w' :=
  (pa_state W h.p).mono fun e w' ⟨e1, e2, e3⟩ => ⟨e1, h.stepP e2 (e3.mono fun _ _ => False.elim)⟩
end Go.Proofs.Ythgjhpiajjamnaa
