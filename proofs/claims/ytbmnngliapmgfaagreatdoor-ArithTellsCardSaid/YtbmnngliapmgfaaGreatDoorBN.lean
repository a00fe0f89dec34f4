/- The laws' shown. -/
/- The laws' same; the walk of ArithSets. -/
import Derived.Test.YtbmnngliapmgfaaGreatDoorAZ
import Derived.BigQuiet
import Derived.Deep.QuietTactic
import Derived.LoopTactic
import Derived.Test.YtbmnngliapmgfaaGreatDoorAM0
namespace Go.Proofs.YtbmnngliapmgfaaGreatDoor
open Go.RowKit
set_option linter.unusedVariables false
set_option linter.unusedSimpArgs false
theorem sh1 : valP [] [49, 32, 43, 32, 50, 32, 42, 32, 51] = (7, 0, []) := by decide +kernel
theorem sh2 : valP [([97], [52, 48])] [97, 32, 43, 61, 32, 50] = (42, 0, [([97], 42)]) := by decide +kernel
theorem sh3 : valP [] [48, 32, 38, 38, 32, 40, 120, 32, 61, 32, 49, 41] = (0, 0, []) := by decide +kernel
theorem sh4 : valP [] [49, 32, 47, 32, 48] = (0, 22, []) := by decide +kernel
theorem giv_nil (W : World) (B : Nat) : Giv W B (.slice none 0 0) [] := ⟨none, 0, rfl, Nat.le_refl _, Nat.zero_le _, fun i p h => by simp at h⟩
/-- Value at a text and no names; its results in the open. -/
theorem val_nil (t : Bs) (W : World) (ht : t.length ≤ maxLen) (henv : Env W) (v e : Int) (o : Own) (h : valP [] t = (v, e, o)) :
    Calls Tryz.prog 6 #[.string (st t), .slice none 0 0] W fun r w' => ∃ lo cap, r = .returned (.tuple #[.int .i64 v, .slice lo o.length cap, .int .i64 e]) ∧ w'.ownsRow W.heap.size 29 4 (.slice lo o.length cap) o.length (outC o) ∧ Below W.heap.size W w' ∧ Env w' :=
  (value_any (st t) (.slice none 0 0) [] W (by rw [st_size]; exact ht) (giv_nil _ _) henv).mono (by
    rintro r w' ⟨lv, rfl, ho, hb⟩
    rw [st_data, h] at ho ⊢
    obtain ⟨lo, cap, rfl, -, -⟩ := ownz_form ho
    exact ⟨lo, cap, rfl, ho, hb, henv.bel hb⟩)
theorem val_giv (t : Bs) (g : List (Bs × Bs)) (gv : Value) (W : World) (ht : t.length ≤ maxLen) (hg : Giv W W.heap.size gv g) (henv : Env W) (v e : Int) (o : Own) (h : valP g t = (v, e, o)) :
    Calls Tryz.prog 6 #[.string (st t), gv] W fun r w' => ∃ lo cap, r = .returned (.tuple #[.int .i64 v, .slice lo o.length cap, .int .i64 e]) ∧ w'.ownsRow W.heap.size 29 4 (.slice lo o.length cap) o.length (outC o) ∧ Below W.heap.size W w' ∧ Env w' :=
  (value_any (st t) gv g W (by rw [st_size]; exact ht) hg henv).mono (by
    rintro r w' ⟨lv, rfl, ho, hb⟩
    rw [st_data, h] at ho ⊢
    obtain ⟨lo, cap, rfl, -, -⟩ := ownz_form ho
    exact ⟨lo, cap, rfl, ho, hb, henv.bel hb⟩)
/-- a row of names and values, just made. -/
theorem giv_new1 (W : World) (a b : Bs) (hb : b.length ≤ maxLen) : Giv (W.alloc (.cells #[.string (st a), .string (st b), .bool false, .bool false] 29)) (W.alloc (.cells #[.string (st a), .string (st b), .bool false, .bool false] 29)).heap.size (.slice (some ⟨W.heap.size, 0, none⟩) 1 1) [(a, b)] := by
  have e := heap_alloc_new W (.cells #[.string (st a), .string (st b), .bool false, .bool false] 29)
  refine ⟨_, 1, rfl, Nat.le_refl _, by unfold maxLen; omega, fun i p hp => ?_⟩
  match i, hp with
  | 0, hp =>
    simp at hp
    subst hp
    refine ⟨hb, W.heap.size, 0, rfl, by simp, ?_, ?_, false, false, ?_, ?_⟩ <;> rw [Lib.cell_of_heap e] <;> rfl
theorem bel_next {W a b : World} (h : Below W.heap.size W a) (k : Below a.heap.size a b) : Below W.heap.size W b := h.trans (k.mono h.size)
theorem bel_new {W a : World} (h : Below W.heap.size W a) (o : Obj) : Below W.heap.size W (a.alloc o) := h.alloc h.size o
theorem sh5 : Lib.itoa 42 = [52, 50] := by decide +kernel
set_option maxRecDepth 100000 in
set_option maxHeartbeats 4000000 in
theorem shown_any (W : World) (henv : Env W) : Calls Tryz.prog 4 #[] W fun e w' => e = .returned (.bool true) ∧ Below W.heap.size W w' := by
  have H1 := Lib.hid (show Calls Tryz.prog 6 #[.string ⟨#[49, 32, 43, 32, 50, 32, 42, 32, 51]⟩, .slice none 0 0] W _ from val_nil _ W (by decide) henv _ _ _ sh1)
  have H2 := Lib.hid (fun (w1 : World) (he : Env w1) => show Calls Tryz.prog 6 #[.string ⟨#[97, 32, 43, 61, 32, 50]⟩, .slice (some ⟨w1.heap.size, 0, none⟩) 1 1] (w1.alloc (.cells #[.string ⟨#[97]⟩, .string ⟨#[52, 48]⟩, .bool false, .bool false] 29)) _ from
    val_giv [97, 32, 43, 61, 32, 50] [([97], [52, 48])] _ (w1.alloc (.cells #[.string (st [97]), .string (st [52, 48]), .bool false, .bool false] 29)) (by decide) (giv_new1 w1 [97] [52, 48] (by decide)) (he.bel ((Below.refl _ _).alloc (Nat.le_refl _) _)) _ _ _ sh2)
  have H3 := Lib.hid (fun (w1 : World) (he : Env w1) => show Calls Tryz.prog 6 #[.string ⟨#[48, 32, 38, 38, 32, 40, 120, 32, 61, 32, 49, 41]⟩, .slice none 0 0] w1 _ from val_nil _ w1 (by decide) he _ _ _ sh3)
  have H4 := Lib.hid (fun (w1 : World) (he : Env w1) => show Calls Tryz.prog 6 #[.string ⟨#[49, 32, 47, 32, 48]⟩, .slice none 0 0] w1 _ from val_nil _ w1 (by decide) he _ _ _ sh4)
  clear henv
  go_enter Tryz.func4, Tryz.ntmps4
  go_wp2_with (first
    | (go_at_call 6; (with_reducible refine H1.out.mono ?_); rintro e w1 ⟨lo1, cap1, rfl, -, hb1, he1⟩; have HB1 := Lib.hid hb1; have HE1 := Lib.hid he1; clear hb1 he1)
    | (go_at_call 6; (with_reducible refine (H2.out _ HE1.out).mono ?_); rintro e w2 ⟨lo2, cap2, rfl, ho2, hb2, he2⟩; have HB2 := Lib.hid hb2; have HE2 := Lib.hid he2; have HO2 := Lib.hid ho2; clear hb2 he2 ho2)
    | (go_at_call 6; (with_reducible refine (H3.out _ HE2.out).mono ?_); rintro e w3 ⟨lo3, cap3, rfl, -, hb3, he3⟩; have HB3 := Lib.hid hb3; have HE3 := Lib.hid he3; clear hb3 he3)
    | (go_at_call 6; (with_reducible refine (H4.out _ HE3.out).mono ?_); rintro e w4 ⟨lo4, cap4, rfl, -, hb4, he4⟩; have HB4 := Lib.hid hb4; clear hb4 he4
       obtain ⟨lo', cap2', hsl, hlc, hgb⟩ := ownz_form HO2.out
       cases hsl
       obtain ⟨gb, rfl⟩ := hgb (by decide)
       have hk := HO2.out.cellAt 1 (by decide)
       have hlt := (ownz_type HO2.out (k := gb) rfl).2.1
       have k1 : w4.cell? ⟨gb, 1, none⟩ = some (.string ⟨#[52, 50]⟩) := (by
         rw [(HB4.out).cell (p := ⟨gb, 1, none⟩) (Nat.lt_of_lt_of_le hlt HB3.out.size), HB3.out.cell (p := ⟨gb, 1, none⟩) hlt, hk]
         show some (Value.string (st (Lib.itoa 42))) = _
         rw [sh5]; rfl)
       clear hk))
  go_ret
  exact ⟨rfl, bel_next (bel_next (bel_next (bel_new HB1.out _) HB2.out) HB3.out) HB4.out⟩
end Go.Proofs.YtbmnngliapmgfaaGreatDoor
namespace Go.Proofs.YtbmnngliapmgfaaGreatDoor
open Go.RowKit
set_option linter.unusedVariables false
set_option linter.unusedSimpArgs false
/-- a struct of this type has these many cells. -/
def AggOf (ty : TypeId) (n : Nat) : Prop := (∀ w, (isAgg ty).run Tryz.prog w = .ok true w) ∧ ∀ w, (sizeOf ty).run Tryz.prog w = .ok n w
theorem aggVar : AggOf 29 4 := ⟨fun w => by kernel_rfl, fun w => by kernel_rfl⟩
theorem load_agg {w : World} {ty : TypeId} {g o : Nat} {cs : Array Value} (hc : ∀ j, j < cs.size → w.cell? ⟨g, o + j, none⟩ = cs[j]?) (ht : AggOf ty cs.size) :
    (loadVar ty ⟨g, o, none⟩).run Tryz.prog w = .ok (.agg cs) w := by
  have hl : (loadCells ⟨g, o, none⟩ cs.size).run Tryz.prog w = .ok cs w := by
    have := run_loadCells_list (P := Tryz.prog) w ⟨g, o, none⟩ cs.toList (fun j v hv => by
      have hv' : cs[j]? = some v := by simpa using hv
      rw [Addr.add_lit, hc j (Array.getElem?_eq_some_iff.1 hv').1]
      exact hv')
    rw [Array.length_toList] at this
    exact this
  simp [loadVar, ht.1, ht.2, hl]
theorem yield_loadAgg {w : World} {o : Oper} {a : Act} {ty : TypeId} {x : Operand} (ho : o.op = .load ty x) {g off : Nat} {cs : Array Value} (hx : a.eval x = .pointer (some ⟨g, off, none⟩))
    (hc : ∀ j, j < cs.size → w.cell? ⟨g, off + j, none⟩ = cs[j]?) (ht : AggOf ty cs.size) : (execOp a.eval o).run Tryz.prog w = .ok (.value (.agg cs)) w := by
  have hv := load_agg hc ht
  simp [execOp, ho, hx, Instr.loadAt, Instr.sureAddr, hv, asAddr, Result.andThen]
theorem four_at {W : World} {g off : Nat} {a b c d : Value} (h0 : W.cell? ⟨g, off, none⟩ = some a) (h1 : W.cell? ⟨g, off + 1, none⟩ = some b) (h2 : W.cell? ⟨g, off + 2, none⟩ = some c) (h3 : W.cell? ⟨g, off + 3, none⟩ = some d) : ∀ j, j < (#[a, b, c, d] : Array Value).size → W.cell? ⟨g, off + j, none⟩ = (#[a, b, c, d] : Array Value)[j]? := by
  intro j hj
  have hj : j < 4 := hj
  match j, hj with
  | 0, _ => exact h0
  | 1, _ => exact h1
  | 2, _ => exact h2
  | 3, _ => exact h3
/-- a row that reads as these variables. -/
def Rds (W : World) (v : Value) (o : Own) : Prop := ∃ ao cap, v = .slice ao o.length cap ∧ o.length ≤ cap ∧ cap ≤ maxLen ∧ ∀ i p, o[i]? = some p → ∃ g off, ao = some ⟨g, off, none⟩ ∧
  W.cell? ⟨g, off + i * 4, none⟩ = some (.string (st p.1)) ∧ W.cell? ⟨g, off + i * 4 + 1, none⟩ = some (.string (st (Lib.itoa p.2))) ∧ W.cell? ⟨g, off + i * 4 + 2, none⟩ = some (.bool false) ∧ W.cell? ⟨g, off + i * 4 + 3, none⟩ = some (.bool false)
def smRel (W : World) (n : Nat) (iv : Value) (wr : World) : Prop := ∃ k : Nat, iv = .int .i64 k ∧ k ≤ n ∧ Below W.heap.size W wr ∧ ∀ p, wr.cell? p = W.cell? p
set_option maxRecDepth 100000 in
set_option maxHeartbeats 1000000 in
theorem same_any (o : Own) (a b : Value) (W : World) (ha : Rds W a o) (hb : Rds W b o) : Calls Tryz.prog 7 #[a, b] W fun e w' => e = .returned (.bool true) ∧ Below W.heap.size W w' := by
  obtain ⟨ao, ca, rfl, ha1, ha2, ha3⟩ := ha
  obtain ⟨bo, cb, rfl, hb1, hb2, hb3⟩ := hb
  have HA := Lib.hid ha3
  have HB := Lib.hid hb3
  have hmx : maxLen = 9223372036854775807 := rfl
  generalize hn : o.length = n at *
  have HN := Lib.hid hn
  clear ha3 hb3 hn
  have hnm : (n : Int) ≤ 9223372036854775807 := by omega
  go_enter Tryz.func7, Tryz.ntmps7
  go_wp2
  go_loopw [5] (fun iv wr => smRel W n iv wr) (fun iv _ => n - (intOf iv).toNat)
  case atStart => exact ⟨0, rfl, by omega, Below.refl _ _, fun _ => rfl⟩
  case round =>
    obtain ⟨k, rfl, hk, hbw, hcl⟩ := hrel
    by_cases hkn : k < n
    · obtain ⟨p, hp⟩ : ∃ p, o[k]? = some p := ⟨_, List.getElem?_eq_getElem (by rw [HN.out]; exact hkn)⟩
      obtain ⟨ga, offa, rfl, a0, a1, a2, a3⟩ := HA.out k p hp
      obtain ⟨gb, offb, rfl, b0, b1, b2, b3⟩ := HB.out k p hp
      rw [← hcl] at a0 a1 a2 a3 b0 b1 b2 b3
      go_wp2
      refine wp_region_noPanic ?_
      refine wp_region_any (by kernel_rfl) (any_of_T (S := (fun _ w' => w' = wr.drew)) _ _ _ _ ?_)
      change anyT _ _ _ _ _ _ _ _ wr.drew
      have aS : wr.drew = wr.drew := rfl
      have a0' : wr.drew.cell? ⟨ga, offa + k * 4, none⟩ = some (.string (st p.1)) := a0
      have a1' : wr.drew.cell? ⟨ga, offa + k * 4 + 1, none⟩ = some (.string (st (Lib.itoa p.2))) := a1
      have a2' : wr.drew.cell? ⟨ga, offa + k * 4 + 2, none⟩ = some (.bool false) := a2
      have a3' : wr.drew.cell? ⟨ga, offa + k * 4 + 3, none⟩ = some (.bool false) := a3
      have b0' : wr.drew.cell? ⟨gb, offb + k * 4, none⟩ = some (.string (st p.1)) := b0
      have b1' : wr.drew.cell? ⟨gb, offb + k * 4 + 1, none⟩ = some (.string (st (Lib.itoa p.2))) := b1
      have b2' : wr.drew.cell? ⟨gb, offb + k * 4 + 2, none⟩ = some (.bool false) := b2
      have b3' : wr.drew.cell? ⟨gb, offb + k * 4 + 3, none⟩ = some (.bool false) := b3
      refine anyT_take (i := 0) (v := .slice (some ⟨ga, offa, none⟩) n ca) (fun w' => w' = wr.drew) rfl (by kernel_rfl) (by kernel_rfl) (by kernel_rfl) (fun _ _ _ h => h) (fun _ _ _ _ hS => hS) (fun _ _ => Iff.rfl) (Clos.start _) (Or.inl ⟨by kernel_rfl, ?ay0⟩) aS (fun ac0 aS0 => ?ar0)
      case ay0 => (intro W hSw; subst hSw; go_simp)
      try simp only [Act.put, List.getElem_toArray, List.getElem_cons_succ, List.getElem_cons_zero, List.setIfInBounds_toArray, List.set_cons_zero, List.set_cons_succ]
      refine anyT_take (i := 1) (v := .int .i64 k) (fun w' => w' = wr.drew) rfl (by kernel_rfl) (by kernel_rfl) (by kernel_rfl) (fun _ _ _ h => h) (fun _ _ _ _ hS => hS) (fun _ _ => Iff.rfl) ac0 (Or.inl ⟨by kernel_rfl, ?ay1⟩) aS0 (fun ac1 aS1 => ?ar1)
      case ay1 => (intro W hSw; subst hSw; go_simp)
      try simp only [Act.put, List.getElem_toArray, List.getElem_cons_succ, List.getElem_cons_zero, List.setIfInBounds_toArray, List.set_cons_zero, List.set_cons_succ]
      refine anyT_take (i := 2) (v := .pointer (some ⟨ga, offa + k * 4, none⟩)) (fun w' => w' = wr.drew) rfl (by kernel_rfl) (by kernel_rfl) (by kernel_rfl) (fun _ _ _ h => h) (fun _ _ _ _ hS => hS) (fun _ _ => Iff.rfl) ac1 (Or.inl ⟨by kernel_rfl, ?ay2⟩) aS1 (fun ac2 aS2 => ?ar2)
      case ay2 => (intro W hSw; subst hSw; go_simp)
      try simp only [Act.put, List.getElem_toArray, List.getElem_cons_succ, List.getElem_cons_zero, List.setIfInBounds_toArray, List.set_cons_zero, List.set_cons_succ]
      refine anyT_take (i := 3) (v := .agg #[.string (st p.1), .string (st (Lib.itoa p.2)), .bool false, .bool false]) (fun w' => w' = wr.drew) rfl (by kernel_rfl) (by kernel_rfl) (by kernel_rfl) (fun _ _ _ h => h) (fun _ _ _ _ hS => hS) (fun _ _ => Iff.rfl) ac2 (Or.inl ⟨by kernel_rfl, ?ay3⟩) aS2 (fun ac3 aS3 => ?ar3)
      case ay3 => (intro W hSw; subst hSw; exact yield_loadAgg rfl rfl (four_at a0' a1' a2' a3') aggVar)
      try simp only [Act.put, List.getElem_toArray, List.getElem_cons_succ, List.getElem_cons_zero, List.setIfInBounds_toArray, List.set_cons_zero, List.set_cons_succ]
      refine anyT_take (i := 4) (v := .slice (some ⟨gb, offb, none⟩) n cb) (fun w' => w' = wr.drew) rfl (by kernel_rfl) (by kernel_rfl) (by kernel_rfl) (fun _ _ _ h => h) (fun _ _ _ _ hS => hS) (fun _ _ => Iff.rfl) ac3 (Or.inl ⟨by kernel_rfl, ?ay4⟩) aS3 (fun ac4 aS4 => ?ar4)
      case ay4 => (intro W hSw; subst hSw; go_simp)
      try simp only [Act.put, List.getElem_toArray, List.getElem_cons_succ, List.getElem_cons_zero, List.setIfInBounds_toArray, List.set_cons_zero, List.set_cons_succ]
      refine anyT_take (i := 5) (v := .int .i64 k) (fun w' => w' = wr.drew) rfl (by kernel_rfl) (by kernel_rfl) (by kernel_rfl) (fun _ _ _ h => h) (fun _ _ _ _ hS => hS) (fun _ _ => Iff.rfl) ac4 (Or.inl ⟨by kernel_rfl, ?ay5⟩) aS4 (fun ac5 aS5 => ?ar5)
      case ay5 => (intro W hSw; subst hSw; go_simp)
      try simp only [Act.put, List.getElem_toArray, List.getElem_cons_succ, List.getElem_cons_zero, List.setIfInBounds_toArray, List.set_cons_zero, List.set_cons_succ]
      refine anyT_take (i := 6) (v := .pointer (some ⟨gb, offb + k * 4, none⟩)) (fun w' => w' = wr.drew) rfl (by kernel_rfl) (by kernel_rfl) (by kernel_rfl) (fun _ _ _ h => h) (fun _ _ _ _ hS => hS) (fun _ _ => Iff.rfl) ac5 (Or.inl ⟨by kernel_rfl, ?ay6⟩) aS5 (fun ac6 aS6 => ?ar6)
      case ay6 => (intro W hSw; subst hSw; go_simp)
      try simp only [Act.put, List.getElem_toArray, List.getElem_cons_succ, List.getElem_cons_zero, List.setIfInBounds_toArray, List.set_cons_zero, List.set_cons_succ]
      refine anyT_take (i := 7) (v := .agg #[.string (st p.1), .string (st (Lib.itoa p.2)), .bool false, .bool false]) (fun w' => w' = wr.drew) rfl (by kernel_rfl) (by kernel_rfl) (by kernel_rfl) (fun _ _ _ h => h) (fun _ _ _ _ hS => hS) (fun _ _ => Iff.rfl) ac6 (Or.inl ⟨by kernel_rfl, ?ay7⟩) aS6 (fun ac7 aS7 => ?ar7)
      case ay7 => (intro W hSw; subst hSw; exact yield_loadAgg rfl rfl (four_at b0' b1' b2' b3') aggVar)
      try simp only [Act.put, List.getElem_toArray, List.getElem_cons_succ, List.getElem_cons_zero, List.setIfInBounds_toArray, List.set_cons_zero, List.set_cons_succ]
      refine anyT_take (i := 8) (v := .bool false) (fun w' => w' = wr.drew) rfl (by kernel_rfl) (by kernel_rfl) (by kernel_rfl) (fun _ _ _ h => h) (fun _ _ _ _ hS => hS) (fun _ _ => Iff.rfl) ac7 (Or.inl ⟨by kernel_rfl, ?ay8⟩) aS7 (fun ac8 aS8 => ?ar8)
      case ay8 => (intro W hSw; subst hSw; go_simp)
      try simp only [Act.put, List.getElem_toArray, List.getElem_cons_succ, List.getElem_cons_zero, List.setIfInBounds_toArray, List.set_cons_zero, List.set_cons_succ]
      refine anyT_done (by kernel_rfl) ?_
      refine NoPanic.normal ?_
      clear a0' a1' a2' a3' b0' b1' b2' b3' aS ac0 ac1 ac2 ac3 ac4 ac5 ac6 ac7 ac8 aS0 aS1 aS2 aS3 aS4 aS5 aS6 aS7 aS8 a0 a1 a2 a3 b0 b1 b2 b3
      have hbw2 := hbw.drew
      have hcl2 : ∀ q, wr.drew.cell? q = W.cell? q := hcl
      generalize wr.drew = w2 at *
      rename_i hK
      refine hK _ _ ?_
      clear hK
      go_wp2
      go_roundw
      case rel => exact ⟨k + 1, by go_num, by omega, hbw2, hcl2⟩
      case measure => simp [intOf]; omega
    · obtain rfl : k = n := by omega
      go_wp2
      go_ret
      exact ⟨rfl, hbw⟩
end Go.Proofs.YtbmnngliapmgfaaGreatDoor
