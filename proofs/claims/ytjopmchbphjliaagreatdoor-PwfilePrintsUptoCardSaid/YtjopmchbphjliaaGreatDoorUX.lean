/- Users that came in: what the reading of an argument tells of its cells. -/
import Derived.Test.YtjopmchbphjliaaGreatDoorU1
import Derived.Deep.Slices
import Derived.Deep.Fields
import Derived.ChangeSame
import Derived.DataReads
namespace Go.Proofs.YtjopmchbphjliaaGreatDoor
open Go.RowKit Go.Shelf Go.ChangeShapes Go.WideShapes Go.Deep

theorem userT : Tryz.prog.underlying 29 = some (.struct (Tryz.prog.fieldsOf 29)) := by kernel_rfl
theorem list6 {l : List Value} (h : l.length = 6) : ∃ a b c d e f, l = [a, b, c, d, e, f] := by
  match l, h with
  | [a, b, c, d, e, f], _ => exact ⟨a, b, c, d, e, f, rfl⟩
theorem int_wf {n : Int} (h : (Lit.int .i64 n).wf = true) : -9223372036854775808 ≤ n ∧ n ≤ 9223372036854775807 := by
  simp [Lit.wf] at h
  exact h
theorem plain_addr {W : World} {a : Addr} {v0 : Value} (h0 : W.cell? a = some v0) : ∃ b off, a = ⟨b, off, none⟩ := by
  obtain ⟨b, off, spot⟩ := a
  have hs2 : spot = none := World.cell?_spot h0
  subst hs2
  exact ⟨b, off, rfl⟩
section
variable {H : Type} {enc : TypeId × Value → H} {w : World} {base : Nat} {spare : Nat → Bool} {held : Bool}
theorem cells_user {n : Nat} {cs : List Value} {x : DataW H × List MemPlace} (h : DataW.trod enc Tryz.prog w base spare held n 29 cs = some x) : ∃ u : Usr, cs = u.cells ∧ OkU u := by
  obtain ⟨xs, m, _, _, hl, hxl, hf⟩ := DataW.trod_struct userT h
  rw [show Tryz.prog.cellsOf 29 = 6 by kernel_rfl] at hl
  obtain ⟨a, b, c, d, e, f, rfl⟩ := list6 hl
  have hs : (Tryz.prog.fieldsOf 29).size = 6 := by kernel_rfl
  have key : ∀ (i : Nat) (o : Nat) (t : TypeId), i < 6 → ((Tryz.prog.fieldsOf 29)[i]?.map fun g => (g.offset, g.type)) = some (o, t) → ∃ y, DataW.trod enc Tryz.prog w base spare held m t (([a, b, c, d, e, f].drop o).take (Tryz.prog.cellsOf t)) = some y := by
    intro i o t hi ht
    cases hg : (Tryz.prog.fieldsOf 29)[i]? with
    | none => rw [hg] at ht; cases ht
    | some g =>
      rw [hg] at ht
      cases ht
      exact ⟨xs[i]'(by omega), by rw [hf i g hg]; exact List.getElem?_eq_getElem _⟩
  have c9 : Tryz.prog.cellsOf 9 = 1 := by kernel_rfl
  have c3 : Tryz.prog.cellsOf 3 = 1 := by kernel_rfl
  obtain ⟨_, h0⟩ := key 0 0 9 (by decide) (by kernel_rfl)
  obtain ⟨_, h1⟩ := key 1 1 9 (by decide) (by kernel_rfl)
  obtain ⟨_, h2⟩ := key 2 2 3 (by decide) (by kernel_rfl)
  obtain ⟨_, h3⟩ := key 3 3 3 (by decide) (by kernel_rfl)
  obtain ⟨_, h4⟩ := key 4 4 9 (by decide) (by kernel_rfl)
  obtain ⟨_, h5⟩ := key 5 5 9 (by decide) (by kernel_rfl)
  rw [c9] at h0 h1 h4 h5
  rw [c3] at h2 h3
  obtain ⟨s0, e0, _, k0⟩ := DataW.trod_string Tryz.underlying9 h0
  obtain ⟨s1, e1, _, k1⟩ := DataW.trod_string Tryz.underlying9 h1
  obtain ⟨n2, e2, _, k2⟩ := DataW.trod_int Tryz.underlying3 h2
  obtain ⟨n3, e3, _, k3⟩ := DataW.trod_int Tryz.underlying3 h3
  obtain ⟨s4, e4, _, k4⟩ := DataW.trod_string Tryz.underlying9 h4
  obtain ⟨s5, e5, _, k5⟩ := DataW.trod_string Tryz.underlying9 h5
  simp at e0 e1 e2 e3 e4 e5
  subst e0 e1 e2 e3 e4 e5
  refine ⟨⟨s0, s1, n2, n3, s4, s5⟩, rfl, k0, k1, k4, k5, ?_, ?_⟩
  · exact int_wf k2
  · exact int_wf k3
theorem open_users {n : Nat} {p : Option Addr} {len cap : Nat} {x : DataW H × List MemPlace} (h : DataW.trod enc Tryz.prog w base (fun _ => true) held n 23 [.slice p len cap] = some x) :
    ∃ us, InUsers w p len us ∧ len ≤ cap ∧ cap ≤ maxLen := by
  rcases open_slice Tryz.underlying23 h with ⟨hcs, _⟩ | ⟨a, len', cap', m, n', D, Pl, hcs, _, hl, hm, hmm, _, hi⟩
  · cases hcs
    exact ⟨[], ⟨rfl, fun j u hj => by cases hj⟩, Nat.le_refl _, Nat.zero_le _⟩
  · cases hcs
    have hmm' : m = cap := hmm
    subst hmm'
    rw [show Tryz.prog.cellsOf 29 = 6 by kernel_rfl] at hi
    have hu : ∀ i, i < m → ∃ u : Usr, OkU u ∧ ∀ j v, u.cells[j]? = some v → w.cell? ((a.add (i * 6)).add j) = some v := by
      intro i him
      obtain ⟨cs', hc, ht⟩ := hi i him
      obtain ⟨u, hu, hok⟩ := cells_user ht
      obtain ⟨_, hcl, hat⟩ := World.cells?_some hc
      refine ⟨u, hok, fun j v hj => ?_⟩
      have hj6 : j < 6 := (List.getElem?_eq_some_iff.1 hj).1
      rw [hat j hj6, hu, hj]
    have hex : ∃ f : Nat → Usr, ∀ i, i < m → OkU (f i) ∧ ∀ j v, (f i).cells[j]? = some v → w.cell? ((a.add (i * 6)).add j) = some v :=
      ⟨fun i => if h : i < m then Classical.choose (hu i h) else noUsr, fun i h => by
        simp only [dif_pos h]; exact Classical.choose_spec (hu i h)⟩
    obtain ⟨f, hf⟩ := hex
    refine ⟨(List.range len).map f, ⟨by simp, fun j u hj => ?_⟩, hl, hm⟩
    have hjl : j < len := by have := (List.getElem?_eq_some_iff.1 hj).1; simpa using this
    rw [List.getElem?_map, List.getElem?_range hjl] at hj
    cases hj
    have h0 := (hf 0 (by omega)).2 0 _ rfl
    rw [Nat.zero_mul] at h0
    have hz : ∀ x : Addr, x.add 0 = x := fun x => if_pos rfl
    rw [hz, hz] at h0
    obtain ⟨b, off, rfl⟩ := plain_addr h0
    obtain ⟨hok, hc⟩ := hf j (by omega)
    refine ⟨hok, b, off, rfl, ?_⟩
    have key : ∀ i v, (f j).cells[i]? = some v → w.cell? ⟨b, off + j * 6 + i, none⟩ = some v := fun i v hv => by
      have := hc i v hv
      rw [Addr.add_lit, Addr.add_lit] at this
      exact this
    exact ⟨key 0 _ rfl, key 1 _ rfl, key 2 _ rfl, key 3 _ rfl, key 4 _ rfl, key 5 _ rfl⟩
end
end Go.Proofs.YtjopmchbphjliaaGreatDoor
