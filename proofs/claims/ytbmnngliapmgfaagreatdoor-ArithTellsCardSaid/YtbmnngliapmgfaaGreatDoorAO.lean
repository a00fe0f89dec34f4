/- Contract of the program's parse: what panics is caught. -/
import Derived.Test.YtbmnngliapmgfaaGreatDoorAN
namespace Go.Proofs.YtbmnngliapmgfaaGreatDoor
open Go.RowKit
set_option linter.unusedVariables false
set_option linter.unusedSimpArgs false
theorem rec_idle (p q : Addr) (w : World) :
    CallsD Tryz.prog 20 #[.pointer (some p), .pointer (some q)] .returning w fun e u' w' => e = .returned (.tuple #[]) ∧ u' = .returning ∧ w' = w := by
  refine callsD_of_wpS Tryz.func20 rfl fun c₀ cs hu => ?_
  apply wpS_seq
  apply wpS_region
  simp [wpOpsS, go_sem, recoverD, hu, Tryz.ntmps20, Exit.thenS]
  refine wpS_of_wp ?_
  go_wp2
  cases c₀
  simp_all [bodyPostS, results, Tryz.results20]
set_option maxRecDepth 100000 in
theorem rec_bad (H : Nat) (w : World) (v0 : Value) (x0 : Int) (h0 : w.cell? ⟨H, 0, none⟩ = some v0) (h1 : w.cell? ⟨H + 1, 0, none⟩ = some (.int .i64 x0)) (f0 : w.frozen? ⟨H, 0, none⟩ = false) (f1 : w.frozen? ⟨H + 1, 0, none⟩ = false) :
    CallsD Tryz.prog 20 #[.pointer (some ⟨H, 0, none⟩), .pointer (some ⟨H + 1, 0, none⟩)] (.panicking bad) w fun e u' w' => e = .returned (.tuple #[]) ∧ u' = .panicking [{ v := .iface 52 (.agg #[]), recovered := true }] ∧
      w' = ((w.setCell ⟨H, 0, none⟩ .nilIface).setCell ⟨H + 1, 0, none⟩ (.int .i64 17)).alloc (.cells #[] 52) := by
  refine callsD_of_wpS Tryz.func20 rfl fun c₀ cs hu => ?_
  apply wpS_seq
  apply wpS_region
  simp [wpOpsS, go_sem, recoverD, hu, Tryz.ntmps20, Exit.thenS, bad]
  refine wpS_of_wp ?_
  clear hu
  have b0 := cell_lt h0
  have b1 := cell_lt h1
  have hta : ∀ w : World, (Instr.typeAssert (.iface 52 (.agg #[])) 20 52 true).run Tryz.prog w = .ok (.tuple #[.agg #[], .bool true]) w := fun _ => by kernel_rfl
  change Code.wp _ _ _ { tmps := #[.pointer (some ⟨H, 0, none⟩), .pointer (some ⟨H + 1, 0, none⟩), undef, undef, undef, .iface 52 (.agg #[]), undef, undef, undef, undef, undef], defers := [] } _
  go_wp2
  cases c₀
  simp [bodyPostS, results, Tryz.results20]
end Go.Proofs.YtbmnngliapmgfaaGreatDoor
