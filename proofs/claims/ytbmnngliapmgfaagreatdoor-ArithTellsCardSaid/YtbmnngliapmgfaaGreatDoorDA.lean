/- ArithTells: a row of variables that came in, and the law's walk over it. -/
import Derived.Test.YtbmnngliapmgfaaGreatDoorCZ
import Derived.Deep.Slices
import Derived.Deep.Fields
import Derived.ChangeSame
import Derived.DataReads
import Derived.WalkKit
import Derived.ProofKit
import Derived.LaidLaws
import Derived.LaidMore
import Derived.Stop.LaidErr
import Derived.SevenTiedAt
import Derived.Stop.Joined
import Derived.Lay
import Derived.Lib.LaidTab
import Derived.Test.YtbmnngliapmgfaaGreatDoorRows
namespace Go.Proofs.YtbmnngliapmgfaaGreatDoor
open Go.RowKit Go.Shelf Go.ChangeShapes Go.WideShapes Go.Deep
set_option linter.unusedVariables false
set_option linter.unusedSimpArgs false
theorem env_of {W : World} (h : laidMetH Tryz.prog Rows.arithTellsRow.laid W) : Env W := by
  rw [MakeChecks.laidMetH_plain _ _ _ (by kernel_rfl)] at h
  have h2 : laidMet Tryz.prog (_ :: _ :: _ :: _ :: _ :: []) W := h
  have h3 := h2.tail.tail
  have e3 : (Rows.laid_internal_strconv_uint64pow10 : DataW Unit) = Lib.tabData .u64 Lib.pow10Tab := by kernel_rfl
  rw [e3] at h3
  exact Lib.tabIs_of_head (g := 0) (t := 103) (e := 73) (n := 20) (by kernel_rfl) (by kernel_rfl) (by kernel_rfl) (by kernel_rfl) (by kernel_rfl) (by kernel_rfl) h3
theorem varT : Tryz.prog.underlying 29 = some (.struct (Tryz.prog.fieldsOf 29)) := by kernel_rfl
theorem list4 {l : List Value} (h : l.length = 4) : ∃ a b c d, l = [a, b, c, d] := by
  match l, h with
  | [a, b, c, d], _ => exact ⟨a, b, c, d, rfl⟩
theorem plain_addr {W : World} {a : Addr} {v0 : Value} (h0 : W.cell? a = some v0) : ∃ b off, a = ⟨b, off, none⟩ := by
  obtain ⟨b, off, spot⟩ := a
  have hs2 : spot = none := World.cell?_spot h0
  subst hs2
  exact ⟨b, off, rfl⟩
section
variable {H : Type} {enc : TypeId × Value → H} {w : World} {base : Nat} {spare : Nat → Bool} {held : Bool}
theorem cells_var {n : Nat} {cs : List Value} {x : DataW H × List MemPlace} (h : DataW.trod enc Tryz.prog w base spare held n 29 cs = some x) : ∃ q : V4, cs = q.cells ∧ q.v.size ≤ maxLen := by
  obtain ⟨xs, m, _, _, hl, hxl, hf⟩ := DataW.trod_struct varT h
  rw [show Tryz.prog.cellsOf 29 = 4 by kernel_rfl] at hl
  obtain ⟨a, b, c, d, rfl⟩ := list4 hl
  have key : ∀ (i : Nat) (o : Nat) (t : TypeId), i < 4 → ((Tryz.prog.fieldsOf 29)[i]?.map fun g => (g.offset, g.type)) = some (o, t) → ∃ y, DataW.trod enc Tryz.prog w base spare held m t (([a, b, c, d].drop o).take (Tryz.prog.cellsOf t)) = some y := by
    intro i o t hi ht
    cases hg : (Tryz.prog.fieldsOf 29)[i]? with
    | none => rw [hg] at ht; cases ht
    | some g =>
      rw [hg] at ht
      cases ht
      have hs : (Tryz.prog.fieldsOf 29).size = 4 := by kernel_rfl
      exact ⟨xs[i]'(by omega), by rw [hf i g hg]; exact List.getElem?_eq_getElem _⟩
  have c9 : Tryz.prog.cellsOf 9 = 1 := by kernel_rfl
  have c4 : Tryz.prog.cellsOf 4 = 1 := by kernel_rfl
  obtain ⟨_, h0⟩ := key 0 0 9 (by decide) (by kernel_rfl)
  obtain ⟨_, h1⟩ := key 1 1 9 (by decide) (by kernel_rfl)
  obtain ⟨_, h2⟩ := key 2 2 4 (by decide) (by kernel_rfl)
  obtain ⟨_, h3⟩ := key 3 3 4 (by decide) (by kernel_rfl)
  rw [c9] at h0 h1
  rw [c4] at h2 h3
  obtain ⟨s0, e0, _, k0⟩ := DataW.trod_string Tryz.underlying9 h0
  obtain ⟨s1, e1, _, k1⟩ := DataW.trod_string Tryz.underlying9 h1
  obtain ⟨b2, e2, _⟩ := DataW.trod_bool Tryz.underlying4 h2
  obtain ⟨b3, e3, _⟩ := DataW.trod_bool Tryz.underlying4 h3
  simp at e0 e1 e2 e3
  subst e0 e1 e2 e3
  exact ⟨⟨s0, s1, b2, b3⟩, rfl, k1⟩
theorem open_vars {n : Nat} {p : Option Addr} {len cap : Nat} {x : DataW H × List MemPlace} (h : DataW.trod enc Tryz.prog w base (fun _ => true) held n 22 [.slice p len cap] = some x) :
    ∃ vs : List V4, Rd4 w (.slice p len cap) vs ∧ ∀ q ∈ vs, q.v.size ≤ maxLen := by
  rcases open_slice Tryz.underlying22 h with ⟨hcs, _⟩ | ⟨a, len', cap', m, n', D, Pl, hcs, _, hl, hm, hmm, _, hi⟩
  · cases hcs
    exact ⟨[], ⟨none, 0, rfl, Nat.le_refl _, Nat.zero_le _, fun j u hj => by cases hj⟩, fun q hq => by cases hq⟩
  · cases hcs
    have hmm' : m = cap := hmm
    subst hmm'
    rw [show Tryz.prog.cellsOf 29 = 4 by kernel_rfl] at hi
    have hu : ∀ i, i < m → ∃ q : V4, q.v.size ≤ maxLen ∧ ∀ j v, q.cells[j]? = some v → w.cell? ((a.add (i * 4)).add j) = some v := by
      intro i him
      obtain ⟨cs', hc, ht⟩ := hi i him
      obtain ⟨u, hu, hok⟩ := cells_var ht
      obtain ⟨_, hcl, hat⟩ := World.cells?_some hc
      refine ⟨u, hok, fun j v hj => ?_⟩
      have hj4 : j < 4 := (List.getElem?_eq_some_iff.1 hj).1
      rw [hat j hj4, hu, hj]
    have hex : ∃ f : Nat → V4, ∀ i, i < m → (f i).v.size ≤ maxLen ∧ ∀ j v, (f i).cells[j]? = some v → w.cell? ((a.add (i * 4)).add j) = some v :=
      ⟨fun i => if h : i < m then Classical.choose (hu i h) else ⟨ByteArray.empty, ByteArray.empty, false, false⟩, fun i h => by
        simp only [dif_pos h]; exact Classical.choose_spec (hu i h)⟩
    obtain ⟨f, hf⟩ := hex
    refine ⟨(List.range len).map f, ⟨some a, m, by simp, by simpa using hl, hm, fun j u hj => ?_⟩, fun q hq => ?_⟩
    · have hjl : j < len := by have := (List.getElem?_eq_some_iff.1 hj).1; simpa using this
      rw [List.getElem?_map, List.getElem?_range hjl] at hj
      cases hj
      have h0 := (hf 0 (by omega)).2 0 _ rfl
      rw [Nat.zero_mul] at h0
      have hz : ∀ x : Addr, x.add 0 = x := fun x => if_pos rfl
      rw [hz, hz] at h0
      obtain ⟨b, off, rfl⟩ := plain_addr h0
      obtain ⟨hok, hc⟩ := hf j (by omega)
      refine ⟨b, off, rfl, ?_⟩
      have key : ∀ i v, (f j).cells[i]? = some v → w.cell? ⟨b, off + j * 4 + i, none⟩ = some v := fun i v hv => by
        have := hc i v hv
        rw [Addr.add_lit, Addr.add_lit] at this
        exact this
      exact ⟨key 0 _ rfl, key 1 _ rfl, key 2 _ rfl, key 3 _ rfl⟩
    · obtain ⟨i, hi, rfl⟩ := List.mem_map.1 hq
      exact (hf i (by have := List.mem_range.1 hi; omega)).1
end
theorem walk_tells (s : ByteArray) (ao : Option Addr) (len cap : Nat) (vs : List V4) (hreach : s.size ≤ 140737488351232) (W : World) (henv : Env W) (hr : Rd4 W (.slice ao len cap) vs) (hz : ∀ q ∈ vs, q.v.size ≤ maxLen) :
    Calls Tryz.prog 3 #[.string s, .slice ao len cap] W fun e w' => e = .returned (.bool true) ∧ Below W.heap.size W w' :=
  tells_any s ao len cap vs (by unfold maxLen; omega) W henv hr hz
end Go.Proofs.YtbmnngliapmgfaaGreatDoor
