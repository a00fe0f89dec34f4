/- Arguments that are slices; plain, Row, Same over rows that may be none. -/
import Derived.Test.YtjjkeemaebmcfaaDH
import Derived.Deep.Slices
import Derived.DataReads
import Derived.Deep.Fields
import Derived.ChangeSame
namespace Go.Proofs.Ytjjkeemaebmcfaa
open Go.RowKit Go.ChangeShapes Go.WideShapes Go.Deep
set_option linter.unusedVariables false
set_option linter.unusedSimpArgs false

abbrev wfI (n : Int) : Prop := -9223372036854775808 ≤ n ∧ n ≤ 9223372036854775807
theorem int_wf2 {n : Int} (h : (Lit.int .i64 n).wf = true) : -9223372036854775808 ≤ n ∧ n ≤ 9223372036854775807 := by
  simp [Lit.wf] at h
  exact h
/-- a slice that reads as these. -/
def InRow {α : Type} (mk : α → Value) (ok : α → Prop) (W : World) (p : Option Addr) (n : Nat) (zs : List α) : Prop :=
  zs.length = n ∧ ∀ (j : Nat) (z : α), zs[j]? = some z → ∃ g off, p = some ⟨g, off, none⟩ ∧ W.cell? ⟨g, off + j, none⟩ = some (mk z) ∧ ok z
abbrev InBools := InRow Value.bool (fun _ : Bool => True)
abbrev InInts := InRow (Value.int .i64) wfI
theorem addr_plain {W : World} {a : Addr} {v0 : Value} (h0 : W.cell? a = some v0) : ∃ b off, a = ⟨b, off, none⟩ := by
  obtain ⟨b, off, spot⟩ := a
  have hs2 : spot = none := World.cell?_spot h0
  subst hs2
  exact ⟨b, off, rfl⟩
section
variable {H : Type} {enc : TypeId × Value → H} {w : World} {base : Nat} {held : Bool}
theorem open_row {α : Type} [Inhabited α] (mk : α → Value) (ok : α → Prop) {t e : TypeId} (ht : Try.prog.underlying t = some (.slice e)) (hc : Try.prog.cellsOf e = 1)
    (inv : ∀ (n : Nat) (cs : List Value) (y : DataW H × List MemPlace), DataW.trod enc Try.prog w base (fun _ => true) held n e cs = some y → ∃ z, cs = [mk z] ∧ ok z)
    {n : Nat} {p : Option Addr} {len cap : Nat} {x : DataW H × List MemPlace} (h : DataW.trod enc Try.prog w base (fun _ => true) held n t [.slice p len cap] = some x) :
    ∃ zs, InRow mk ok w p len zs ∧ len ≤ maxLen := by
  rcases open_slice ht h with ⟨hcs, _⟩ | ⟨a, len', cap', m, n', D, Pl, hcs, _, hl, hm, hmm, _, hi⟩
  · cases hcs
    exact ⟨[], ⟨rfl, fun j u hj => by cases hj⟩, Nat.zero_le _⟩
  · cases hcs
    have hmm' : m = cap := hmm
    subst hmm'
    rw [hc] at hi
    have hu : ∀ i, i < m → ∃ u : α, w.cell? (a.add (i * 1)) = some (mk u) ∧ ok u := by
      intro i him
      obtain ⟨cs', hc', ht'⟩ := hi i him
      obtain ⟨u, hu, hok⟩ := inv _ _ _ ht'
      obtain ⟨_, hcl, hat⟩ := World.cells?_some hc'
      refine ⟨u, ?_, hok⟩
      have := hat 0 (by decide)
      rw [hu] at this
      have hz : ∀ x : Addr, x.add 0 = x := fun x => if_pos rfl
      rw [hz] at this
      exact this
    have hex : ∃ f : Nat → α, ∀ i, i < m → w.cell? (a.add (i * 1)) = some (mk (f i)) ∧ ok (f i) :=
      ⟨fun i => if h : i < m then Classical.choose (hu i h) else default, fun i h => by
        simp only [dif_pos h]; exact Classical.choose_spec (hu i h)⟩
    obtain ⟨f, hf⟩ := hex
    refine ⟨(List.range len).map f, ⟨by simp, fun j u hj => ?_⟩, by omega⟩
    have hjl : j < len := by have := (List.getElem?_eq_some_iff.1 hj).1; simpa using this
    rw [List.getElem?_map, List.getElem?_range hjl] at hj
    cases hj
    have h0 := (hf 0 (by omega)).1
    rw [Nat.zero_mul] at h0
    have hz : ∀ x : Addr, x.add 0 = x := fun x => if_pos rfl
    rw [hz] at h0
    obtain ⟨b, off, rfl⟩ := addr_plain h0
    have hj2 := hf j (by omega)
    rw [Nat.mul_one, Addr.add_lit] at hj2
    exact ⟨b, off, rfl, hj2⟩
theorem open_intz {n : Nat} {p : Option Addr} {len cap : Nat} {x : DataW H × List MemPlace} (h : DataW.trod enc Try.prog w base (fun _ => true) held n 45 [.slice p len cap] = some x) : ∃ zs, InInts w p len zs ∧ len ≤ maxLen :=
  open_row (Value.int .i64) _ Try.underlying45 (by kernel_rfl) (fun n cs y h => by obtain ⟨s, h1, _, h2⟩ := DataW.trod_int Try.underlying3 h; exact ⟨s, h1, int_wf2 h2⟩) h
theorem open_boolz {n : Nat} {p : Option Addr} {len cap : Nat} {x : DataW H × List MemPlace} (h : DataW.trod enc Try.prog w base (fun _ => true) held n 57 [.slice p len cap] = some x) : ∃ zs, InBools w p len zs ∧ len ≤ maxLen :=
  open_row Value.bool _ Try.underlying57 (by kernel_rfl) (fun n cs y h => by obtain ⟨s, h1, h2⟩ := DataW.trod_bool Try.underlying4 h; exact ⟨s, h1, trivial⟩) h
end
/-- a slice of structs that reads as these. -/
def InSt {α : Type} (mk : α → List Value) (ok : α → Prop) (c : Nat) (W : World) (p : Option Addr) (n : Nat) (zs : List α) : Prop :=
  zs.length = n ∧ ∀ (j : Nat) (z : α), zs[j]? = some z → ok z ∧ ∃ g off, p = some ⟨g, off, none⟩ ∧ ∀ (i : Nat) (v : Value), (mk z)[i]? = some v → W.cell? ⟨g, off + j * c + i, none⟩ = some v
section
variable {H : Type} {enc : TypeId × Value → H} {w : World} {base : Nat} {held : Bool}
theorem open_st {α : Type} [Inhabited α] (mk : α → List Value) (ok : α → Prop) (c : Nat) (hc0 : 0 < c) (hmk : ∀ a, (mk a).length = c) {t e : TypeId} (ht : Try.prog.underlying t = some (.slice e)) (hc : Try.prog.cellsOf e = c)
    (inv : ∀ (n : Nat) (cs : List Value) (y : DataW H × List MemPlace), DataW.trod enc Try.prog w base (fun _ => true) held n e cs = some y → ∃ z, cs = mk z ∧ ok z)
    {n : Nat} {p : Option Addr} {len cap : Nat} {x : DataW H × List MemPlace} (h : DataW.trod enc Try.prog w base (fun _ => true) held n t [.slice p len cap] = some x) :
    ∃ zs, InSt mk ok c w p len zs ∧ len ≤ maxLen := by
  rcases open_slice ht h with ⟨hcs, _⟩ | ⟨a, len', cap', m, n', D, Pl, hcs, _, hl, hm, hmm, _, hi⟩
  · cases hcs
    exact ⟨[], ⟨rfl, fun j u hj => by cases hj⟩, Nat.zero_le _⟩
  · cases hcs
    have hmm' : m = cap := hmm
    subst hmm'
    rw [hc] at hi
    have hu : ∀ i, i < m → ∃ u : α, ok u ∧ ∀ j v, (mk u)[j]? = some v → w.cell? ((a.add (i * c)).add j) = some v := by
      intro i him
      obtain ⟨cs', hc', ht'⟩ := hi i him
      obtain ⟨u, hu, hok⟩ := inv _ _ _ ht'
      obtain ⟨_, hcl, hat⟩ := World.cells?_some hc'
      refine ⟨u, hok, fun j v hj => ?_⟩
      have hj3 : j < c := by rw [← hmk u]; exact (List.getElem?_eq_some_iff.1 hj).1
      rw [hat j hj3, hu, hj]
    have hex : ∃ f : Nat → α, ∀ i, i < m → ok (f i) ∧ ∀ j v, (mk (f i))[j]? = some v → w.cell? ((a.add (i * c)).add j) = some v :=
      ⟨fun i => if h : i < m then Classical.choose (hu i h) else default, fun i h => by
        simp only [dif_pos h]; exact Classical.choose_spec (hu i h)⟩
    obtain ⟨f, hf⟩ := hex
    refine ⟨(List.range len).map f, ⟨by simp, fun j u hj => ?_⟩, by omega⟩
    have hjl : j < len := by have := (List.getElem?_eq_some_iff.1 hj).1; simpa using this
    rw [List.getElem?_map, List.getElem?_range hjl] at hj
    cases hj
    obtain ⟨v0, hv0⟩ : ∃ v, (mk (f 0))[0]? = some v := ⟨_, List.getElem?_eq_getElem (by rw [hmk]; exact hc0)⟩
    have h0 := (hf 0 (by omega)).2 0 _ hv0
    rw [Nat.zero_mul] at h0
    have hz : ∀ x : Addr, x.add 0 = x := fun x => if_pos rfl
    rw [hz, hz] at h0
    obtain ⟨b, off, rfl⟩ := addr_plain h0
    obtain ⟨hok, hj2⟩ := hf j (by omega)
    refine ⟨hok, b, off, rfl, fun i v hv => ?_⟩
    have := hj2 i v hv
    rw [Addr.add_lit, Addr.add_lit] at this
    exact this
/-- a step. -/
structure OpD where
  kind : Int
  n : Int
  a : Int
  d : Ent
instance : Inhabited OpD := ⟨⟨0, 0, 0, Ent.zero⟩⟩
def OpD.cells (o : OpD) : List Value := [.int .i64 o.kind, .int .i64 o.n, .int .i64 o.a, .int .i64 o.d.of, .int .i64 o.d.to, .int .i64 o.d.want, .bool o.d.en, .int .i64 o.d.at_]
structure OpD.Ok (o : OpD) : Prop where
  kind : wfI o.kind
  n : wfI o.n
  a : wfI o.a
theorem list8 {l : List Value} (h : l.length = 8) : ∃ a b c d e f g i, l = [a, b, c, d, e, f, g, i] := by
  match l, h with
  | [a, b, c, d, e, f, g, i], _ => exact ⟨a, b, c, d, e, f, g, i, rfl⟩
theorem list5 {l : List Value} (h : l.length = 5) : ∃ a b c d e, l = [a, b, c, d, e] := by
  match l, h with
  | [a, b, c, d, e], _ => exact ⟨a, b, c, d, e, rfl⟩
theorem opDT : Try.prog.underlying 35 = some (.struct (Try.prog.fieldsOf 35)) := by kernel_rfl
theorem descT : Try.prog.underlying 28 = some (.struct (Try.prog.fieldsOf 28)) := by kernel_rfl
theorem cells_desc {n : Nat} {cs : List Value} {x : DataW H × List MemPlace} {spare : Nat → Bool} (h : DataW.trod enc Try.prog w base spare held n 28 cs = some x) : ∃ u : Ent, cs = u.desc := by
  obtain ⟨xs, m, _, _, hl, hxl, hf⟩ := DataW.trod_struct descT h
  rw [show Try.prog.cellsOf 28 = 5 by kernel_rfl] at hl
  obtain ⟨a, b, c, d, e, rfl⟩ := list5 hl
  have hs : (Try.prog.fieldsOf 28).size = 5 := by kernel_rfl
  have key : ∀ (i : Nat) (o : Nat) (t : TypeId), i < 5 → ((Try.prog.fieldsOf 28)[i]?.map fun g => (g.offset, g.type)) = some (o, t) → ∃ y, DataW.trod enc Try.prog w base spare held m t (([a, b, c, d, e].drop o).take (Try.prog.cellsOf t)) = some y := by
    intro i o t hi ht
    cases hg : (Try.prog.fieldsOf 28)[i]? with
    | none => rw [hg] at ht; cases ht
    | some g =>
      rw [hg] at ht
      cases ht
      exact ⟨xs[i]'(by omega), by rw [hf i g hg]; exact List.getElem?_eq_getElem _⟩
  obtain ⟨y0, h0⟩ := key 0 0 3 (by decide) (by kernel_rfl)
  obtain ⟨y1, h1⟩ := key 1 1 3 (by decide) (by kernel_rfl)
  obtain ⟨y2, h2⟩ := key 2 2 3 (by decide) (by kernel_rfl)
  obtain ⟨y3, h3⟩ := key 3 3 4 (by decide) (by kernel_rfl)
  obtain ⟨y4, h4⟩ := key 4 4 3 (by decide) (by kernel_rfl)
  rw [show Try.prog.cellsOf 3 = 1 by kernel_rfl] at h0 h1 h2 h4
  rw [show Try.prog.cellsOf 4 = 1 by kernel_rfl] at h3
  simp only [List.drop_zero, List.drop_succ_cons, List.take_succ_cons, List.take_zero] at h0 h1 h2 h3 h4
  obtain ⟨z0, e0, _, w0⟩ := DataW.trod_int Try.underlying3 h0
  obtain ⟨z1, e1, _, w1⟩ := DataW.trod_int Try.underlying3 h1
  obtain ⟨z2, e2, _, w2⟩ := DataW.trod_int Try.underlying3 h2
  obtain ⟨z3, e3, _⟩ := DataW.trod_bool Try.underlying4 h3
  obtain ⟨z4, e4, _, w4⟩ := DataW.trod_int Try.underlying3 h4
  cases e0; cases e1; cases e2; cases e3; cases e4
  exact ⟨⟨z0, z1, z2, z3, z4, 0⟩, rfl⟩
theorem cells_opD {n : Nat} {cs : List Value} {x : DataW H × List MemPlace} {spare : Nat → Bool} (h : DataW.trod enc Try.prog w base spare held n 35 cs = some x) : ∃ u : OpD, cs = u.cells ∧ u.Ok := by
  obtain ⟨xs, m, _, _, hl, hxl, hf⟩ := DataW.trod_struct opDT h
  rw [show Try.prog.cellsOf 35 = 8 by kernel_rfl] at hl
  obtain ⟨a, b, c, d, e, f, g, i, rfl⟩ := list8 hl
  have hs : (Try.prog.fieldsOf 35).size = 4 := by kernel_rfl
  have key : ∀ (j : Nat) (o : Nat) (t : TypeId), j < 4 → ((Try.prog.fieldsOf 35)[j]?.map fun g => (g.offset, g.type)) = some (o, t) → ∃ y, DataW.trod enc Try.prog w base spare held m t (([a, b, c, d, e, f, g, i].drop o).take (Try.prog.cellsOf t)) = some y := by
    intro j o t hi ht
    cases hg : (Try.prog.fieldsOf 35)[j]? with
    | none => rw [hg] at ht; cases ht
    | some g =>
      rw [hg] at ht
      cases ht
      exact ⟨xs[j]'(by omega), by rw [hf j g hg]; exact List.getElem?_eq_getElem _⟩
  obtain ⟨y0, h0⟩ := key 0 0 3 (by decide) (by kernel_rfl)
  obtain ⟨y1, h1⟩ := key 1 1 3 (by decide) (by kernel_rfl)
  obtain ⟨y2, h2⟩ := key 2 2 3 (by decide) (by kernel_rfl)
  obtain ⟨y3, h3⟩ := key 3 3 28 (by decide) (by kernel_rfl)
  rw [show Try.prog.cellsOf 3 = 1 by kernel_rfl] at h0 h1 h2
  rw [show Try.prog.cellsOf 28 = 5 by kernel_rfl] at h3
  simp only [List.drop_zero, List.drop_succ_cons, List.take_succ_cons, List.take_zero] at h0 h1 h2 h3
  obtain ⟨z0, e0, _, w0⟩ := DataW.trod_int Try.underlying3 h0
  obtain ⟨z1, e1, _, w1⟩ := DataW.trod_int Try.underlying3 h1
  obtain ⟨z2, e2, _, w2⟩ := DataW.trod_int Try.underlying3 h2
  obtain ⟨u, e3⟩ := cells_desc h3
  cases e0; cases e1; cases e2
  cases u
  simp only [Ent.desc, List.cons.injEq, and_true] at e3
  obtain ⟨rfl, rfl, rfl, rfl, rfl⟩ := e3
  exact ⟨⟨z0, z1, z2, ⟨_, _, _, _, _, 0⟩⟩, rfl, int_wf2 w0, int_wf2 w1, int_wf2 w2⟩
abbrev InOps := InSt OpD.cells OpD.Ok 8
theorem open_ops {n : Nat} {p : Option Addr} {len cap : Nat} {x : DataW H × List MemPlace} (h : DataW.trod enc Try.prog w base (fun _ => true) held n 22 [.slice p len cap] = some x) : ∃ zs, InOps w p len zs ∧ len ≤ maxLen :=
  open_st OpD.cells OpD.Ok 8 (by decide) (fun _ => rfl) Try.underlying22 (by kernel_rfl) (fun n cs y h => cells_opD h) h
end
variable {W W' : World}
theorem sl_len {v : Value} {l : List Int} (h : Sl W v l) : (v = .slice none 0 0 ∧ l = []) ∨ ∃ g off cap, v = .slice (some ⟨g, off, none⟩) l.length cap ∧ Rd W g off l := h
theorem same_any (a b : Value) (l m : List Int) (hb : l.length ≤ 1000) (hb2 : m.length ≤ 1000) (w : World) (ha : Sl w a l) (hbd : Sl w b m) :
    Calls Try.prog 25 #[a, b] w fun r w' => r = .returned (.bool (decide (l = m))) ∧ Fr (fun _ => False) w w' := by
  by_cases hlm : l.length = m.length
  · rcases ha with ⟨rfl, rfl⟩ | ⟨ga, oa, ca, rfl, ra⟩
    · obtain rfl : m = [] := List.eq_nil_of_length_eq_zero hlm.symm
      have hb0 : ∃ p c, b = .slice p 0 c := by
        rcases hbd with ⟨rfl, _⟩ | ⟨gb, ob, cb, rfl, rb⟩
        · exact ⟨_, _, rfl⟩
        · exact ⟨_, _, rfl⟩
      obtain ⟨p, c, rfl⟩ := hb0
      clear hbd
      go_enter Try.func25, Try.ntmps25
      go_wp2
      go_loopw [5] (fun iv w' => iv = .int .i64 0 ∧ w' = w) (fun iv _ => 0)
      case atStart => exact ⟨rfl, rfl⟩
      case round =>
        obtain ⟨rfl, rfl⟩ := hrel
        go_wp2
        go_ret
        exact ⟨rfl, Fr.refl _ _⟩
    · rcases hbd with ⟨rfl, rfl⟩ | ⟨gb, ob, cb, rfl, rb⟩
      · obtain rfl : l = [] := List.eq_nil_of_length_eq_zero hlm
        simp only [List.length_nil] at *
        go_enter Try.func25, Try.ntmps25
        go_wp2
        go_loopw [5] (fun iv w' => iv = .int .i64 0 ∧ w' = w) (fun iv _ => 0)
        case atStart => exact ⟨rfl, rfl⟩
        case round =>
          obtain ⟨rfl, rfl⟩ := hrel
          go_wp2
          go_ret
          exact ⟨rfl, Fr.refl _ _⟩
      · rw [← hlm]
        exact same_read l m ga oa ca gb ob cb l.length rfl hlm.symm hb w ra rb
  · have hne : decide (l = m) = false := decide_eq_false fun e => hlm (by rw [e])
    rw [hne]
    have hA : ∃ p c, a = .slice p l.length c := by
      rcases ha with ⟨rfl, rfl⟩ | ⟨ga, oa, ca, rfl, ra⟩
      · exact ⟨_, _, rfl⟩
      · exact ⟨_, _, rfl⟩
    have hB : ∃ p c, b = .slice p m.length c := by
      rcases hbd with ⟨rfl, rfl⟩ | ⟨ga, oa, ca, rfl, ra⟩
      · exact ⟨_, _, rfl⟩
      · exact ⟨_, _, rfl⟩
    obtain ⟨pa, ca, rfl⟩ := hA
    obtain ⟨pb, cb, rfl⟩ := hB
    clear ha hbd hne
    have hq : (((l.length : Nat) : Int) == ((m.length : Nat) : Int)) = false := beq_eq_false_iff_ne.2 (by omega)
    generalize l.length = x at *
    generalize m.length = y at *
    go_enter Try.func25, Try.ntmps25
    go_wp2
    go_ret
    exact ⟨rfl, Fr.refl _ _⟩
/-- is the row of the right length, with numbers from -1 on? -/
def plainB (l : List Int) : Bool := l.all (fun v => decide (-1 ≤ v)) && decide (l.length = 20)
theorem plain_any (p : Option Addr) (n c : Nat) (z : List Int) (w : World) (h : InInts w p n z) (hn : n ≤ maxLen) :
    Calls Try.prog 22 #[.slice p n c] w fun r w' => r = .returned (.bool (plainB z)) ∧ w = w' := by
  have H := Lib.hid h
  unfold maxLen at hn
  clear h
  obtain ⟨R, hR⟩ : ∃ R, plainB z = R := ⟨_, rfl⟩
  rw [hR]
  have HR := Lib.hid hR
  clear hR
  go_enter Try.func22, Try.ntmps22
  go_wp2
  go_loopw [3] (fun iv w' => ∃ k : Nat, iv = .int .i64 k ∧ k ≤ n ∧ w' = w ∧ ∀ v ∈ z.take k, -1 ≤ v) (fun iv _ => n - (intOf iv).toNat)
  case atStart => exact ⟨0, rfl, by omega, rfl, by simp⟩
  case round =>
    obtain ⟨k, rfl, hk, rfl, ht⟩ := hrel
    by_cases hlt : k < n
    · obtain ⟨g0, o0, rfl, hc, _⟩ := H.out.2 k (z[k]'(by rw [H.out.1]; exact hlt)) (List.getElem?_eq_getElem _)
      have t1 : z.take (k + 1) = z.take k ++ [z[k]'(by rw [H.out.1]; exact hlt)] := by rw [List.take_add_one, List.getElem?_eq_getElem (by rw [H.out.1]; exact hlt)]; rfl
      have mem : z[k]'(by rw [H.out.1]; exact hlt) ∈ z := List.getElem_mem _
      generalize z[k]'(by rw [H.out.1]; exact hlt) = v at *
      by_cases hv : -1 ≤ v
      · have hv2 : ¬ (v < -1) := by omega
        have HT := Lib.hid (show ∀ u ∈ z.take (k + 1), -1 ≤ u by
          rw [t1]
          intro u hu
          rcases List.mem_append.1 hu with hu | hu
          · exact ht u hu
          · rw [List.mem_singleton.1 hu]; exact hv)
        clear t1 ht mem
        go_wp2
        go_roundw
        case rel => exact ⟨k + 1, by go_num, by omega, by trivial, HT.out⟩
        case measure => simp [intOf]; omega
      · have hR2 : R = false := by
          rw [← HR.out]
          unfold plainB
          have : z.all (fun v => decide (-1 ≤ v)) = false := by
            rw [List.all_eq_false]
            exact ⟨v, mem, by simpa using hv⟩
          rw [this]; rfl
        subst hR2
        clear t1 ht mem
        go_wp2
        go_ret
        exact ⟨rfl, rfl⟩
    · obtain rfl : k = n := by omega
      have hR2 : R = decide ((k : Int) = 20) := by
        rw [← HR.out]
        unfold plainB
        rw [List.take_of_length_le (by rw [H.out.1]; exact Nat.le_refl _)] at ht
        have : z.all (fun v => decide (-1 ≤ v)) = true := by
          rw [List.all_eq_true]
          intro v hv
          exact decide_eq_true (ht v hv)
        rw [this, H.out.1, Bool.true_and]
        exact decide_eq_decide.2 (by omega)
      have HR2 := Lib.hid hR2
      clear hR2 ht
      go_wp2
      go_ret
      exact ⟨ret_bool (by rw [HR2.out]; first | rfl | simp), rfl⟩
theorem row_any (w : World) :
    Calls Try.prog 32 #[] w fun r w' => r = .returned (.slice (some ⟨w.heap.size, 0, none⟩) 20 20) ∧ OR w' w.heap.size w.heap.size 20 20 (List.replicate 20 (-1)) ∧ Fr (fun _ => False) w w' := by
  obtain ⟨i, hi, hz0, hz1, hz2⟩ := info_int
  obtain ⟨w1, hr1, ho1, hg1⟩ := run_make_full (P := Try.prog) (w := w) w.heap.size 45 3 i (.int .i64 0) 1 intsU hi hz0 hz1 .i64 .i64 20 (by rw [hz2]; decide) (by decide) (Nat.le_refl _)
  have hF1 : Fr (fun _ => False) w w1 := ⟨hg1.os, hg1.tape, hg1.output, hg1.size, fun i hi _ => hg1.block i hi (by simp)⟩
  have hO1 : OR w1 w.heap.size w.heap.size 20 20 (List.replicate 20 0) := by
    refine ⟨by simp, ?_⟩
    rw [List.map_replicate]
    rw [Nat.mul_one] at ho1
    rw [show (Value.int .i64 0).cells = #[.int .i64 0] from rfl, toList_madeCells_one] at ho1
    exact ho1
  have HF1 := Lib.hid hF1
  have HO1 := Lib.hid hO1
  clear hO1 hF1 ho1 hg1 hi hz0 hz1 hz2
  change (Instr.makeSlice 45 (.int .i64 20) (.int .i64 20)).run Try.prog w = _ at hr1
  obtain ⟨G, hG⟩ : ∃ G, w.heap.size = G := ⟨_, rfl⟩
  rw [hG] at hr1 ⊢
  go_enter Try.func32, Try.ntmps32
  go_wp2
  go_loopw [6] (fun iv w' => ∃ k : Nat, iv = .int .i64 k ∧ k ≤ 20 ∧ OR w' G G 20 20 (List.replicate k (-1) ++ List.replicate (20 - k) 0) ∧ Fr (fun _ => False) w w') (fun iv _ => 20 - (intOf iv).toNat)
  case atStart => exact ⟨0, rfl, by omega, by rw [hG] at HO1; exact HO1.out, HF1.out⟩
  case round =>
    obtain ⟨k, rfl, hk, ho, hf⟩ := hrel
    by_cases hlt : k < 20
    · have hc := ho.rd k _ (List.getElem?_eq_getElem (by simp; omega))
      rw [Nat.zero_add] at hc
      have hfz := ho.frozen k
      have ho2 := ho.set k (-1)
      have hl : (List.replicate k (-1 : Int) ++ List.replicate (20 - k) 0).set k (-1) = List.replicate (k + 1) (-1) ++ List.replicate (20 - (k + 1)) 0 := by
        rw [List.set_append_right _ _ (by simp), List.length_replicate, Nat.sub_self, show 20 - k = (20 - (k + 1)) + 1 by omega, List.replicate_succ, List.set_cons_zero, List.replicate_succ', List.append_assoc]
        rfl
      rw [hl] at ho2
      have HO2 := Lib.hid ho2
      have HF2 := Lib.hid (hf.setCell (p := ⟨G, k, none⟩) (.inr (by rw [hG]; exact Nat.le_refl _)) (cI (-1)))
      clear ho ho2 hf hl
      go_wp2
      go_roundw
      case rel => exact ⟨k + 1, by go_num, by omega, HO2.out, HF2.out⟩
      case measure => simp [intOf]; omega
    · obtain rfl : k = 20 := by omega
      have HO := Lib.hid ho
      clear ho
      go_wp2
      go_ret
      exact ⟨rfl, by simpa using HO.out, hf⟩
end Go.Proofs.Ytjjkeemaebmcfaa
