/- What the row lists of the package-level variables gives what the walks ask. -/
import Derived.Test.YtjopmchbphjliaaGreatDoorL1
import Derived.Stop.LaidErr
import Derived.LaidLaws
import Derived.LaidMore
import Derived.SevenTiedAt
import Derived.ProofKit
import Derived.Stop.Joined
namespace Go.Proofs.YtjopmchbphjliaaGreatDoor
open Go.RowKit Go.Shelf Go.ChangeShapes

theorem laid_iface {P : Program} {x : String × DataW Unit} {r : List (String × DataW Unit)} {W : World} {g : Nat} {ti : TypeId} {ms : Array (String × TypeId)}
    (h : laidMet P (x :: r) W) (hg : P.globalNamed x.1 = some g) (ht : (P.globals[g]?).map (·.type) = some ti) (hi : P.underlying ti = some (.interface ms)) :
    ∃ ev, W.cell? ⟨g, 0, none⟩ = some ev ∧ (ev = .nilIface ∨ ∃ te pe, ev = .iface te pe) := by
  obtain ⟨n, d⟩ := x
  obtain ⟨ps, ⟨g0, t0, cs0, f0, p0, q0, hg0, ht0, hv0, hd0, _, e0⟩, _, hrows⟩ := h
  obtain rfl := Option.some.inj (hg.symm.trans hg0)
  obtain rfl := Option.some.inj (ht.symm.trans ht0)
  cases f0 with
  | zero => simp [DataW.trod] at hd0
  | succ f0 =>
    simp only [DataW.trod, hi] at hd0
    obtain ⟨l⟩ := cs0
    match l with
    | [] => simp at hd0
    | [v] =>
      have hcell : W.cell? ⟨g, 0, none⟩ = some v := by simpa using World.var?_cell hg0 hv0 0
      refine ⟨v, hcell, ?_⟩
      cases v <;> first | exact .inl rfl | exact .inr ⟨_, _, rfl⟩ | simp at hd0
    | a :: b :: c => simp at hd0
theorem env_of {W : World} (h : laidMetH Tryz.prog Rows.pwfileFindsRow.laid W) : Env W := by
  rw [MakeChecks.laidMetH_plain _ _ _ (by kernel_rfl)] at h
  have h2 : laidMet Tryz.prog (_ :: _ :: _ :: _ :: _ :: _ :: _ :: []) W := h
  have h3 := h2.tail.tail
  have e3 : (Rows.laid_internal_strconv_uint64pow10 : DataW Unit) = Lib.tabData .u64 Lib.pow10Tab := by kernel_rfl
  have h5 := h3.tail.tail
  have h6 := h5.tail
  rw [e3] at h3
  refine ⟨Lib.tabIs_of_head (g := 3) (t := 116) (e := 99) (n := 20) (by kernel_rfl) (by kernel_rfl) (by kernel_rfl) (by kernel_rfl) (by kernel_rfl) (by kernel_rfl) h3, ?_, ?_⟩
  · exact laid_iface (ti := 52) h6 (by kernel_rfl) (by kernel_rfl) Tryz.underlying52
  · exact laid_iface (ti := 52) h5 (by kernel_rfl) (by kernel_rfl) Tryz.underlying52
end Go.Proofs.YtjopmchbphjliaaGreatDoor
