/- The laws' same; the walk of ArithSets. -/
import Derived.Test.YtncjelemjdkklaaDoorBA
import Derived.BigQuiet
import Derived.Deep.QuietTactic
import Derived.LoopTactic
import Derived.Test.YtncjelemjdkklaaDoorAM0
namespace Go.Proofs.YtncjelemjdkklaaDoor
open Go.RowKit
set_option linter.unusedVariables false
set_option linter.unusedSimpArgs false
/-- a struct of this type has these many cells. -/
def AggOf (ty : TypeId) (n : Nat) : Prop := (∀ w, (isAgg ty).run Tryd.prog w = .ok true w) ∧ ∀ w, (sizeOf ty).run Tryd.prog w = .ok n w
theorem aggVar : AggOf 25 4 := ⟨fun w => by kernel_rfl, fun w => by kernel_rfl⟩
theorem load_agg {w : World} {ty : TypeId} {g o : Nat} {cs : Array Value} (hc : ∀ j, j < cs.size → w.cell? ⟨g, o + j, none⟩ = cs[j]?) (ht : AggOf ty cs.size) :
    (loadVar ty ⟨g, o, none⟩).run Tryd.prog w = .ok (.agg cs) w := by
  have hl : (loadCells ⟨g, o, none⟩ cs.size).run Tryd.prog w = .ok cs w := by
    have := run_loadCells_list (P := Tryd.prog) w ⟨g, o, none⟩ cs.toList (fun j v hv => by
      have hv' : cs[j]? = some v := by simpa using hv
      rw [Addr.add_lit, hc j (Array.getElem?_eq_some_iff.1 hv').1]
      exact hv')
    rw [Array.length_toList] at this
    exact this
  simp [loadVar, ht.1, ht.2, hl]
theorem yield_loadAgg {w : World} {o : Oper} {a : Act} {ty : TypeId} {x : Operand} (ho : o.op = .load ty x) {g off : Nat} {cs : Array Value} (hx : a.eval x = .pointer (some ⟨g, off, none⟩))
    (hc : ∀ j, j < cs.size → w.cell? ⟨g, off + j, none⟩ = cs[j]?) (ht : AggOf ty cs.size) : (execOp a.eval o).run Tryd.prog w = .ok (.value (.agg cs)) w := by
  have hv := load_agg hc ht
  simp [execOp, ho, hx, Instr.loadAt, Instr.sureAddr, hv, asAddr, Result.andThen]
theorem four_at {W : World} {g off : Nat} {a b c d : Value} (h0 : W.cell? ⟨g, off, none⟩ = some a) (h1 : W.cell? ⟨g, off + 1, none⟩ = some b) (h2 : W.cell? ⟨g, off + 2, none⟩ = some c) (h3 : W.cell? ⟨g, off + 3, none⟩ = some d) : ∀ j, j < (#[a, b, c, d] : Array Value).size → W.cell? ⟨g, off + j, none⟩ = (#[a, b, c, d] : Array Value)[j]? := by
  intro j hj
  have hj : j < 4 := hj
  match j, hj with
  | 0, _ => exact h0
  | 1, _ => exact h1
  | 2, _ => exact h2
  | 3, _ => exact h3
/-- a row that reads as these variables. -/
def Rds (W : World) (v : Value) (o : Own) : Prop := ∃ ao cap, v = .slice ao o.length cap ∧ o.length ≤ cap ∧ cap ≤ maxLen ∧ ∀ i p, o[i]? = some p → ∃ g off, ao = some ⟨g, off, none⟩ ∧
  W.cell? ⟨g, off + i * 4, none⟩ = some (.string (st p.1)) ∧ W.cell? ⟨g, off + i * 4 + 1, none⟩ = some (.string (st (Lib.itoa p.2))) ∧ W.cell? ⟨g, off + i * 4 + 2, none⟩ = some (.bool false) ∧ W.cell? ⟨g, off + i * 4 + 3, none⟩ = some (.bool false)
def smRel (W : World) (n : Nat) (iv : Value) (wr : World) : Prop := ∃ k : Nat, iv = .int .i64 k ∧ k ≤ n ∧ Below W.heap.size W wr ∧ ∀ p, wr.cell? p = W.cell? p
set_option maxRecDepth 100000 in
set_option maxHeartbeats 1000000 in
theorem same_any (o : Own) (a b : Value) (W : World) (ha : Rds W a o) (hb : Rds W b o) : Calls Tryd.prog 11 #[a, b] W fun e w' => e = .returned (.bool true) ∧ Below W.heap.size W w' := by
  obtain ⟨ao, ca, rfl, ha1, ha2, ha3⟩ := ha
  obtain ⟨bo, cb, rfl, hb1, hb2, hb3⟩ := hb
  have HA := Lib.hid ha3
  have HB := Lib.hid hb3
  have hmx : maxLen = 9223372036854775807 := rfl
  generalize hn : o.length = n at *
  have HN := Lib.hid hn
  clear ha3 hb3 hn
  have hnm : (n : Int) ≤ 9223372036854775807 := by omega
  go_enter Tryd.func11, Tryd.ntmps11
  go_wp2
  go_loopw [5] (fun iv wr => smRel W n iv wr) (fun iv _ => n - (intOf iv).toNat)
  case atStart => exact ⟨0, rfl, by omega, Below.refl _ _, fun _ => rfl⟩
  case round =>
    obtain ⟨k, rfl, hk, hbw, hcl⟩ := hrel
    by_cases hkn : k < n
    · obtain ⟨p, hp⟩ : ∃ p, o[k]? = some p := ⟨_, List.getElem?_eq_getElem (by rw [HN.out]; exact hkn)⟩
      obtain ⟨ga, offa, rfl, a0, a1, a2, a3⟩ := HA.out k p hp
      obtain ⟨gb, offb, rfl, b0, b1, b2, b3⟩ := HB.out k p hp
      rw [← hcl] at a0 a1 a2 a3 b0 b1 b2 b3
      go_wp2
      refine wp_region_noPanic ?_
      refine wp_region_any (by kernel_rfl) (any_of_T (S := (fun _ w' => w' = wr.drew)) _ _ _ _ ?_)
      change anyT _ _ _ _ _ _ _ _ wr.drew
      have aS : wr.drew = wr.drew := rfl
      have a0' : wr.drew.cell? ⟨ga, offa + k * 4, none⟩ = some (.string (st p.1)) := a0
      have a1' : wr.drew.cell? ⟨ga, offa + k * 4 + 1, none⟩ = some (.string (st (Lib.itoa p.2))) := a1
      have a2' : wr.drew.cell? ⟨ga, offa + k * 4 + 2, none⟩ = some (.bool false) := a2
      have a3' : wr.drew.cell? ⟨ga, offa + k * 4 + 3, none⟩ = some (.bool false) := a3
      have b0' : wr.drew.cell? ⟨gb, offb + k * 4, none⟩ = some (.string (st p.1)) := b0
      have b1' : wr.drew.cell? ⟨gb, offb + k * 4 + 1, none⟩ = some (.string (st (Lib.itoa p.2))) := b1
      have b2' : wr.drew.cell? ⟨gb, offb + k * 4 + 2, none⟩ = some (.bool false) := b2
      have b3' : wr.drew.cell? ⟨gb, offb + k * 4 + 3, none⟩ = some (.bool false) := b3
      refine anyT_take (i := 0) (v := .slice (some ⟨ga, offa, none⟩) n ca) (fun w' => w' = wr.drew) rfl (by kernel_rfl) (by kernel_rfl) (by kernel_rfl) (fun _ _ _ h => h) (fun _ _ _ _ hS => hS) (fun _ _ => Iff.rfl) (Clos.start _) (Or.inl ⟨by kernel_rfl, ?ay0⟩) aS (fun ac0 aS0 => ?ar0)
      case ay0 => (intro W hSw; subst hSw; go_simp)
      try simp only [Act.put, List.getElem_toArray, List.getElem_cons_succ, List.getElem_cons_zero, List.setIfInBounds_toArray, List.set_cons_zero, List.set_cons_succ]
      refine anyT_take (i := 1) (v := .int .i64 k) (fun w' => w' = wr.drew) rfl (by kernel_rfl) (by kernel_rfl) (by kernel_rfl) (fun _ _ _ h => h) (fun _ _ _ _ hS => hS) (fun _ _ => Iff.rfl) ac0 (Or.inl ⟨by kernel_rfl, ?ay1⟩) aS0 (fun ac1 aS1 => ?ar1)
      case ay1 => (intro W hSw; subst hSw; go_simp)
      try simp only [Act.put, List.getElem_toArray, List.getElem_cons_succ, List.getElem_cons_zero, List.setIfInBounds_toArray, List.set_cons_zero, List.set_cons_succ]
      refine anyT_take (i := 2) (v := .pointer (some ⟨ga, offa + k * 4, none⟩)) (fun w' => w' = wr.drew) rfl (by kernel_rfl) (by kernel_rfl) (by kernel_rfl) (fun _ _ _ h => h) (fun _ _ _ _ hS => hS) (fun _ _ => Iff.rfl) ac1 (Or.inl ⟨by kernel_rfl, ?ay2⟩) aS1 (fun ac2 aS2 => ?ar2)
      case ay2 => (intro W hSw; subst hSw; go_simp)
      try simp only [Act.put, List.getElem_toArray, List.getElem_cons_succ, List.getElem_cons_zero, List.setIfInBounds_toArray, List.set_cons_zero, List.set_cons_succ]
      refine anyT_take (i := 3) (v := .agg #[.string (st p.1), .string (st (Lib.itoa p.2)), .bool false, .bool false]) (fun w' => w' = wr.drew) rfl (by kernel_rfl) (by kernel_rfl) (by kernel_rfl) (fun _ _ _ h => h) (fun _ _ _ _ hS => hS) (fun _ _ => Iff.rfl) ac2 (Or.inl ⟨by kernel_rfl, ?ay3⟩) aS2 (fun ac3 aS3 => ?ar3)
      case ay3 => (intro W hSw; subst hSw; exact yield_loadAgg rfl rfl (four_at a0' a1' a2' a3') aggVar)
      try simp only [Act.put, List.getElem_toArray, List.getElem_cons_succ, List.getElem_cons_zero, List.setIfInBounds_toArray, List.set_cons_zero, List.set_cons_succ]
      refine anyT_take (i := 4) (v := .slice (some ⟨gb, offb, none⟩) n cb) (fun w' => w' = wr.drew) rfl (by kernel_rfl) (by kernel_rfl) (by kernel_rfl) (fun _ _ _ h => h) (fun _ _ _ _ hS => hS) (fun _ _ => Iff.rfl) ac3 (Or.inl ⟨by kernel_rfl, ?ay4⟩) aS3 (fun ac4 aS4 => ?ar4)
      case ay4 => (intro W hSw; subst hSw; go_simp)
      try simp only [Act.put, List.getElem_toArray, List.getElem_cons_succ, List.getElem_cons_zero, List.setIfInBounds_toArray, List.set_cons_zero, List.set_cons_succ]
      refine anyT_take (i := 5) (v := .int .i64 k) (fun w' => w' = wr.drew) rfl (by kernel_rfl) (by kernel_rfl) (by kernel_rfl) (fun _ _ _ h => h) (fun _ _ _ _ hS => hS) (fun _ _ => Iff.rfl) ac4 (Or.inl ⟨by kernel_rfl, ?ay5⟩) aS4 (fun ac5 aS5 => ?ar5)
      case ay5 => (intro W hSw; subst hSw; go_simp)
      try simp only [Act.put, List.getElem_toArray, List.getElem_cons_succ, List.getElem_cons_zero, List.setIfInBounds_toArray, List.set_cons_zero, List.set_cons_succ]
      refine anyT_take (i := 6) (v := .pointer (some ⟨gb, offb + k * 4, none⟩)) (fun w' => w' = wr.drew) rfl (by kernel_rfl) (by kernel_rfl) (by kernel_rfl) (fun _ _ _ h => h) (fun _ _ _ _ hS => hS) (fun _ _ => Iff.rfl) ac5 (Or.inl ⟨by kernel_rfl, ?ay6⟩) aS5 (fun ac6 aS6 => ?ar6)
      case ay6 => (intro W hSw; subst hSw; go_simp)
      try simp only [Act.put, List.getElem_toArray, List.getElem_cons_succ, List.getElem_cons_zero, List.setIfInBounds_toArray, List.set_cons_zero, List.set_cons_succ]
      refine anyT_take (i := 7) (v := .agg #[.string (st p.1), .string (st (Lib.itoa p.2)), .bool false, .bool false]) (fun w' => w' = wr.drew) rfl (by kernel_rfl) (by kernel_rfl) (by kernel_rfl) (fun _ _ _ h => h) (fun _ _ _ _ hS => hS) (fun _ _ => Iff.rfl) ac6 (Or.inl ⟨by kernel_rfl, ?ay7⟩) aS6 (fun ac7 aS7 => ?ar7)
      case ay7 => (intro W hSw; subst hSw; exact yield_loadAgg rfl rfl (four_at b0' b1' b2' b3') aggVar)
      try simp only [Act.put, List.getElem_toArray, List.getElem_cons_succ, List.getElem_cons_zero, List.setIfInBounds_toArray, List.set_cons_zero, List.set_cons_succ]
      refine anyT_take (i := 8) (v := .bool false) (fun w' => w' = wr.drew) rfl (by kernel_rfl) (by kernel_rfl) (by kernel_rfl) (fun _ _ _ h => h) (fun _ _ _ _ hS => hS) (fun _ _ => Iff.rfl) ac7 (Or.inl ⟨by kernel_rfl, ?ay8⟩) aS7 (fun ac8 aS8 => ?ar8)
      case ay8 => (intro W hSw; subst hSw; go_simp)
      try simp only [Act.put, List.getElem_toArray, List.getElem_cons_succ, List.getElem_cons_zero, List.setIfInBounds_toArray, List.set_cons_zero, List.set_cons_succ]
      refine anyT_done (by kernel_rfl) ?_
      refine NoPanic.normal ?_
      clear a0' a1' a2' a3' b0' b1' b2' b3' aS ac0 ac1 ac2 ac3 ac4 ac5 ac6 ac7 ac8 aS0 aS1 aS2 aS3 aS4 aS5 aS6 aS7 aS8 a0 a1 a2 a3 b0 b1 b2 b3
      have hbw2 := hbw.drew
      have hcl2 : ∀ q, wr.drew.cell? q = W.cell? q := hcl
      generalize wr.drew = w2 at *
      rename_i hK
      refine hK _ _ ?_
      clear hK
      go_wp2
      go_roundw
      case rel => exact ⟨k + 1, by go_num, by omega, hbw2, hcl2⟩
      case measure => simp [intOf]; omega
    · obtain rfl : k = n := by omega
      go_wp2
      go_ret
      exact ⟨rfl, hbw⟩
end Go.Proofs.YtncjelemjdkklaaDoor
