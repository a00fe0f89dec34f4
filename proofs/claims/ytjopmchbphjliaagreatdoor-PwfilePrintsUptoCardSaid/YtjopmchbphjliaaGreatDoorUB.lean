/- Users that came in, where the bulk of what came in is bounded: their homes and shells are no longer. -/
import Derived.Test.YtjopmchbphjliaaGreatDoorUX
namespace Go.Proofs.YtjopmchbphjliaaGreatDoor
open Go.RowKit Go.Shelf Go.ChangeShapes Go.WideShapes Go.Deep

theorem bulk_part {H : Type} {d : DataW H} {l : List (DataW H)} (h : d ∈ l) : Rows.uptoBulk d ≤ Rows.uptoBulkAll l := by
  induction l with
  | nil => cases h
  | cons x r ih =>
    simp only [Rows.uptoBulkAll]
    cases List.mem_cons.1 h with
    | inl e => subst e; omega
    | inr e => have := ih e; omega
section
variable {H : Type} {enc : TypeId × Value → H} {w : World} {base : Nat} {spare : Nat → Bool} {held : Bool}
theorem cells_user_b {n : Nat} {cs : List Value} {x : DataW H × List MemPlace} (h : DataW.trod enc Tryz.prog w base spare held n 29 cs = some x) :
    ∃ u : Usr, cs = u.cells ∧ OkU u ∧ u.home.size ≤ Rows.uptoBulk x.1 ∧ u.shell.size ≤ Rows.uptoBulk x.1 := by
  obtain ⟨u, hu, hok⟩ := cells_user h
  refine ⟨u, hu, hok, ?_⟩
  obtain ⟨xs, m, _, hx, hl, hxl, hf⟩ := DataW.trod_struct userT h
  subst hu
  have hs : (Tryz.prog.fieldsOf 29).size = 6 := by kernel_rfl
  have key : ∀ (i : Nat) (o : Nat) (t : TypeId), i < 6 → ((Tryz.prog.fieldsOf 29)[i]?.map fun g => (g.offset, g.type)) = some (o, t) → ∃ y, DataW.trod enc Tryz.prog w base spare held m t ((u.cells.drop o).take (Tryz.prog.cellsOf t)) = some y ∧ y ∈ xs := by
    intro i o t hi ht
    cases hg : (Tryz.prog.fieldsOf 29)[i]? with
    | none => rw [hg] at ht; cases ht
    | some g =>
      rw [hg] at ht
      cases ht
      exact ⟨xs[i]'(by omega), by rw [hf i g hg]; exact List.getElem?_eq_getElem _, List.getElem_mem _⟩
  have c9 : Tryz.prog.cellsOf 9 = 1 := by kernel_rfl
  obtain ⟨y4, h4, m4⟩ := key 4 4 9 (by decide) (by kernel_rfl)
  obtain ⟨y5, h5, m5⟩ := key 5 5 9 (by decide) (by kernel_rfl)
  rw [c9] at h4 h5
  obtain ⟨s4, e4, z4, _⟩ := DataW.trod_string Tryz.underlying9 h4
  obtain ⟨s5, e5, z5, _⟩ := DataW.trod_string Tryz.underlying9 h5
  have e4' : u.home = s4 := by
    have : [Value.string u.home] = [Value.string s4] := e4
    cases this; rfl
  have e5' : u.shell = s5 := by
    have : [Value.string u.shell] = [Value.string s5] := e5
    cases this; rfl
  have g4 := bulk_part (List.mem_map_of_mem (f := (·.1)) m4)
  have g5 := bulk_part (List.mem_map_of_mem (f := (·.1)) m5)
  rw [z4] at g4
  rw [z5] at g5
  rw [hx, e4', e5']
  simp only [Rows.uptoBulk, size_len] at g4 g5 ⊢
  omega
theorem open_users_b {n : Nat} {p : Option Addr} {len cap : Nat} {x : DataW H × List MemPlace} (h : DataW.trod enc Tryz.prog w base (fun _ => true) held n 23 [.slice p len cap] = some x) :
    ∃ us, InUsers w p len us ∧ len ≤ cap ∧ cap ≤ maxLen ∧ ∀ u ∈ us, u.home.size ≤ Rows.uptoBulk x.1 ∧ u.shell.size ≤ Rows.uptoBulk x.1 := by
  obtain ⟨us, hin, hl, hm⟩ := open_users h
  refine ⟨us, hin, hl, hm, fun u hu => ?_⟩
  rcases open_slice Tryz.underlying23 h with ⟨hcs, _⟩ | ⟨a, len', cap', m, n', D, Pl, hcs, _, hl', hm', hmm, hx, hi⟩
  · cases hcs
    have := List.length_eq_zero_iff.1 hin.1
    subst this; cases hu
  · cases hcs
    have hmm' : m = cap := hmm
    subst hmm'
    rw [show Tryz.prog.cellsOf 29 = 6 by kernel_rfl] at hi
    obtain ⟨j, hj⟩ := List.getElem?_of_mem hu
    have hjl : j < len := by have := (List.getElem?_eq_some_iff.1 hj).1; rw [hin.1] at this; exact this
    obtain ⟨_, b, off, hp, hat⟩ := hin.2 j u hj
    cases hp
    obtain ⟨cs', hc, ht⟩ := hi j (by omega)
    obtain ⟨v, hv, _, g4, g5⟩ := cells_user_b ht
    obtain ⟨_, hcl, hcat⟩ := World.cells?_some hc
    have key : ∀ i, i < 6 → w.cell? ⟨b, off + j * 6 + i, none⟩ = v.cells[i]? := fun i hi6 => by
      have := hcat i hi6
      rw [Addr.add_lit, Addr.add_lit, hv] at this
      exact this
    have k4 := (key 4 (by decide)).symm.trans hat.2.2.2.2.1
    have k5 := (key 5 (by decide)).symm.trans hat.2.2.2.2.2
    have e4 : v.home = u.home := by
      have : some (Value.string v.home) = some (Value.string u.home) := k4
      exact Value.string.inj (Option.some.inj this)
    have e5 : v.shell = u.shell := by
      have : some (Value.string v.shell) = some (Value.string u.shell) := k5
      exact Value.string.inj (Option.some.inj this)
    have hmem : D j ∈ (List.range len).map D := List.mem_map_of_mem (List.mem_range.2 hjl)
    have g := bulk_part hmem
    rw [hx]
    simp only [Rows.uptoBulk]
    rw [← e4, ← e5]
    simp only at g4 g5
    omega
end
end Go.Proofs.YtjopmchbphjliaaGreatDoor
