/- Rows of variables, as they came in and as they are made; the laws' same over any of them. -/
import Derived.Test.YtbmnngliapmgfaaGreatDoorBN
import Derived.Test.YtbmnngliapmgfaaGreatDoorCL
namespace Go.Proofs.YtbmnngliapmgfaaGreatDoor
open Go.RowKit
set_option linter.unusedVariables false
set_option linter.unusedSimpArgs false
structure V4 where
  n : ByteArray
  v : ByteArray
  b : Bool
  c : Bool
def V4.cells (q : V4) : List Value := [.string q.n, .string q.v, .bool q.b, .bool q.c]
def vC (vs : List V4) : List Value := vs.flatMap V4.cells
theorem vC_cons (q : V4) (r : List V4) : vC (q :: r) = [.string q.n, .string q.v, .bool q.b, .bool q.c] ++ vC r := rfl
theorem vC_len (vs : List V4) : (vC vs).length = vs.length * 4 := by
  induction vs with
  | nil => rfl
  | cons p r ih => rw [vC_cons, List.length_append, ih]; simp; omega
theorem vC_at : ∀ (vs : List V4) (i : Nat) (q : V4), vs[i]? = some q → (vC vs)[i * 4]? = some (.string q.n) ∧ (vC vs)[i * 4 + 1]? = some (.string q.v) ∧ (vC vs)[i * 4 + 2]? = some (.bool q.b) ∧ (vC vs)[i * 4 + 3]? = some (.bool q.c) := by
  intro vs
  induction vs with
  | nil => intro i p h; simp at h
  | cons q r ih =>
    intro i p h
    rw [vC_cons]
    cases i with
    | zero => simp at h; subst h; exact ⟨rfl, rfl, rfl, rfl⟩
    | succ i =>
      have := ih i p (by simpa using h)
      rw [List.getElem?_append_right (by simp; omega), List.getElem?_append_right (by simp; omega), List.getElem?_append_right (by simp; omega), List.getElem?_append_right (by simp; omega)]
      simp only [List.length_cons, List.length_nil]
      rw [show (i + 1) * 4 - (0 + 1 + 1 + 1 + 1) = i * 4 by omega, show (i + 1) * 4 + 1 - (0 + 1 + 1 + 1 + 1) = i * 4 + 1 by omega, show (i + 1) * 4 + 2 - (0 + 1 + 1 + 1 + 1) = i * 4 + 2 by omega, show (i + 1) * 4 + 3 - (0 + 1 + 1 + 1 + 1) = i * 4 + 3 by omega]
      exact this
/-- what was set, as such rows. -/
def outs (o : Own) : List V4 := o.map fun p => ⟨st p.1, st (Lib.itoa p.2), false, false⟩
theorem outs_len (o : Own) : (outs o).length = o.length := List.length_map _
theorem outC_vC (o : Own) : outC o = vC (outs o) := by
  induction o with
  | nil => rfl
  | cons p r ih =>
    have e : outC (p :: r) = [.string (st p.1), .string (st (Lib.itoa p.2)), .bool false, .bool false] ++ outC r := rfl
    rw [e, ih]; rfl
/-- a row that reads as these variables. -/
def Rd4 (W : World) (v : Value) (vs : List V4) : Prop := ∃ ao cap, v = .slice ao vs.length cap ∧ vs.length ≤ cap ∧ cap ≤ maxLen ∧ ∀ i p, vs[i]? = some p → ∃ g off, ao = some ⟨g, off, none⟩ ∧
  W.cell? ⟨g, off + i * 4, none⟩ = some (.string p.n) ∧ W.cell? ⟨g, off + i * 4 + 1, none⟩ = some (.string p.v) ∧ W.cell? ⟨g, off + i * 4 + 2, none⟩ = some (.bool p.b) ∧ W.cell? ⟨g, off + i * 4 + 3, none⟩ = some (.bool p.c)
theorem Rd4.fr {W W' : World} {v : Value} {vs : List V4} (h : Rd4 W v vs) (f : Fr (fun _ => False) W W') : Rd4 W' v vs := by
  obtain ⟨ao, cap, h1, h2, h3, h4⟩ := h
  refine ⟨ao, cap, h1, h2, h3, fun i p hp => ?_⟩
  obtain ⟨g, off, e, c0, c1, c2, c3⟩ := h4 i p hp
  exact ⟨g, off, e, f.cell c0 id, f.cell c1 id, f.cell c2 id, f.cell c3 id⟩
theorem rd4_own {W : World} {B : Nat} {v : Value} {vs : List V4} (h : W.ownsRow B 29 4 v vs.length (vC vs)) : Rd4 W v vs := by
  rcases h.2 with ⟨rfl, h0⟩ | ⟨g, cap, cur, rfl, -, -, h1, h2, -⟩
  · refine ⟨none, 0, by rw [h0], by rw [h0]; exact Nat.le_refl _, Nat.zero_le _, fun i p hp => ?_⟩
    rw [List.length_eq_zero_iff.1 h0] at hp; simp at hp
  · refine ⟨_, cap, rfl, h1, h2, fun i q hq => ?_⟩
    have hi := (List.getElem?_eq_some_iff.1 hq).1
    obtain ⟨k0, k1, k2, k3⟩ := vC_at vs i q hq
    refine ⟨g, 0, rfl, ?_, ?_, ?_, ?_⟩ <;> rw [Nat.zero_add]
    · rw [h.cellAt _ (by omega)]; exact k0
    · rw [h.cellAt _ (by omega)]; exact k1
    · rw [h.cellAt _ (by omega)]; exact k2
    · rw [h.cellAt _ (by omega)]; exact k3
theorem rd4_out {W : World} {B : Nat} {v : Value} {o : Own} (h : W.ownsRow B 29 4 v o.length (outC o)) : Rd4 W v (outs o) := by
  rw [outC_vC, ← outs_len] at h
  exact rd4_own h
/-- the names and the texts, as they were given. -/
def gof (vs : List V4) : List (Bs × Bs) := vs.map fun q => (q.n.data.toList, q.v.data.toList)
theorem gof_len (vs : List V4) : (gof vs).length = vs.length := List.length_map _
theorem giv_rd4 {W : World} {v : Value} {vs : List V4} (h : Rd4 W v vs) (hs : ∀ q ∈ vs, q.v.size ≤ maxLen) : Giv W W.heap.size v (gof vs) := by
  obtain ⟨ao, cap, h1, h2, h3, h4⟩ := h
  refine ⟨ao, cap, by rw [gof_len]; exact h1, by rw [gof_len]; exact h2, h3, fun i p hp => ?_⟩
  obtain ⟨q, hq, rfl⟩ : ∃ q, vs[i]? = some q ∧ (q.n.data.toList, q.v.data.toList) = p := by
    unfold gof at hp
    rw [List.getElem?_map] at hp
    cases hv : vs[i]? with
    | none => rw [hv] at hp; cases hp
    | some q => rw [hv] at hp; cases hp; exact ⟨q, rfl, rfl⟩
  obtain ⟨g, off, e, c0, c1, c2, c3⟩ := h4 i q hq
  have hz := hs q (List.mem_of_getElem? hq)
  refine ⟨by show q.v.data.toList.length ≤ _; rw [show q.v.data.toList.length = q.v.size from rfl]; exact hz, g, off, e, cell_lt c0, ?_, ?_, q.b, q.c, c2, c3⟩
  · rw [c0]; dsimp only; rw [st_of]
  · rw [c1]; dsimp only; rw [st_of]
theorem Rd4.take {W : World} {ao : Option Addr} {m cap : Nat} {vs : List V4} (h : Rd4 W (.slice ao m cap) vs) (k : Nat) (hk : k ≤ m) : Rd4 W (.slice ao k cap) (vs.take k) := by
  obtain ⟨ao', cap', h1, h2, h3, h4⟩ := h
  injection h1 with e1 e2 e3
  subst e1 e2 e3
  have hl : (vs.take k).length = k := by rw [List.length_take]; omega
  refine ⟨ao, cap, by rw [hl], by rw [hl]; omega, h3, fun i p hp => ?_⟩
  refine h4 i p ?_
  rw [List.getElem?_take] at hp
  split at hp
  · exact hp
  · cases hp
theorem append_nil4 (g n cap : Nat) (p : Option Addr) (c : Nat) (w : World) (hn : n ≤ cap) (hc : cap ≤ maxLen) : (Builtin.append_ #[22, 22] 22 #[.slice (some ⟨g, 0, none⟩) n cap, .slice p 0 c]).run Tryz.prog w = .ok (.slice (some ⟨g, 0, none⟩) n cap) w := by
  obtain ⟨i0, hi, hz0, hz1, hz2⟩ := info_parts infoVar
  cases p with
  | none => simp [Builtin.append_, run_underlying Tryz.underlying22, sizeOf, typeInfo, hi, Builtin.lenOf, Builtin.firstCells, storeCells]; intro h; omega
  | some a => simp [Builtin.append_, run_underlying Tryz.underlying22, sizeOf, typeInfo, hi, Builtin.lenOf, Builtin.firstCells, storeCells, loadCells, loadCellsFrom]; intro h; omega
/-- 'append([]api.Var{}, row...)'. -/
theorem wpList_own4 {w w1 : World} {ops : Array Oper} {rest : List Oper} {o : Oper} {a : Act} {Q : Exit → Act → World → Prop} (hgd : o.guard = none) (s x : Operand)
    (ho : o.op = .call { callee := .builtin .append, args := #[s, x], argTypes := #[22, 22] }) (hty : o.type = 22) (vs : List V4) (p : Option Addr) (n c : Nat) (hn : vs.length = n) (hb : n ≤ 200)
    (hw : w1 = w.alloc (.cells #[] 29)) (hs : a.eval s = .slice (some ⟨w.heap.size, 0, none⟩) 0 0) (hx : a.eval x = .slice p n c) (h : Rd4 w (.slice p n c) vs)
    (k : ∀ G cap w', Rd4 w' (.slice (some ⟨G, 0, none⟩) n cap) vs → Below w.heap.size w w' → wpList Tryz.prog ops Q rest (a.put o.dst (.slice (some ⟨G, 0, none⟩) n cap)) w') :
    wpList Tryz.prog ops Q (o :: rest) a w1 := by
  subst hw
  obtain ⟨i, hi, hz0, hz1, hz2⟩ := info_parts infoVar
  have hmade : (w.alloc (.cells #[] 29)).ownsRow w.heap.size 29 4 (.slice (some ⟨w.heap.size, 0, none⟩) 0 0) 0 [] := World.ownsRow_made w #[] 0 (Nat.le_refl _) (by decide) rfl
  by_cases h0 : 0 < n
  · obtain ⟨ao', cap', h1, h2, h3, h4⟩ := h.fr ((Fr.refl (fun _ => False) w).alloc (.cells #[] 29))
    injection h1 with e1 e2 e3
    subst e1 e3
    obtain ⟨q0, hq0⟩ : ∃ q, vs[0]? = some q := ⟨_, List.getElem?_eq_getElem (by omega)⟩
    obtain ⟨g, off, rfl, -⟩ := h4 0 q0 hq0
    refine wpList_append_lies _ hgd s x 22 ho w.heap.size 29 i _ 4 40 Tryz.underlying22 hi hz0 hz1 hz2 rfl (by decide) _ 0 [] hs hmade ⟨g, off, none⟩ n c (vC vs) hx (by rw [vC_len, hn]) ?_ ?_ h0 (by unfold maxLen; omega) (by omega) (by simp) _ rfl ?_
    · intro j u hj
      have hjl : j < vs.length * 4 := by have := (List.getElem?_eq_some_iff.1 hj).1; rw [vC_len] at this; exact this
      obtain ⟨q, hq⟩ : ∃ q, vs[j / 4]? = some q := ⟨_, List.getElem?_eq_getElem (by omega)⟩
      obtain ⟨g', off', e, c0, c1, c2, c3⟩ := h4 _ q hq
      obtain ⟨k0, k1, k2, k3⟩ := vC_at vs _ q hq
      cases e
      rw [Addr.add_lit]
      have hm : j % 4 = 0 ∨ j % 4 = 1 ∨ j % 4 = 2 ∨ j % 4 = 3 := by omega
      have hd : j = j / 4 * 4 + j % 4 := by omega
      rcases hm with hm | hm | hm | hm <;> rw [hm] at hd
      · rw [Nat.add_zero] at hd; rw [hd] at hj ⊢; rw [k0] at hj; cases hj; rw [show off + j / 4 * 4 = off + j / 4 * 4 from rfl]; simpa using c0
      · rw [hd] at hj ⊢; rw [k1] at hj; cases hj; rw [← Nat.add_assoc]; simpa using c1
      · rw [hd] at hj ⊢; rw [k2] at hj; cases hj; rw [← Nat.add_assoc]; simpa using c2
      · rw [hd] at hj ⊢; rw [k3] at hj; cases hj; rw [← Nat.add_assoc]; simpa using c3
    · intro u hu
      unfold vC at hu
      rw [List.mem_flatMap] at hu
      obtain ⟨q, _, hq⟩ := hu
      unfold V4.cells at hq
      simp at hq
      rcases hq with rfl | rfl | rfl | rfl <;> rfl
    · intro G cap w' k1 k2 k3 k4
      rw [List.nil_append] at k1
      simp only [Nat.zero_add] at k1 ⊢
      refine k G cap w' (rd4_own (by rw [hn]; exact k1)) ?_
      exact Fr.below ((Below.refl w.heap.size w).alloc (Nat.le_refl _) (.cells #[] 29)) (Nat.le_refl _) (Fr.grown k2) (fun g hg => by
        have : w.heap.size = g := by simpa [Value.ownBlock] using hg
        omega)
  · obtain rfl : n = 0 := by omega
    have hvs := List.length_eq_zero_iff.1 hn
    subst hvs
    refine wpList_plain hgd fun K hK => ?_
    have hrun := append_nil4 w.heap.size 0 0 p c (w.alloc (.cells #[] 29)) (Nat.le_refl _) (Nat.zero_le _)
    unfold Oper.wp execOp
    simp only [ho, hty, resolve, invoke, builtin, Sem.run_bind, Sem.run_pure, Result.andThen_ok, List.map_toArray, List.map_cons, List.map_nil, hs, hx, hrun]
    exact hK _ _ (k _ _ _ ⟨_, 0, rfl, Nat.le_refl _, Nat.zero_le _, fun i p hp => by simp at hp⟩ ((Below.refl _ _).alloc (Nat.le_refl _) _))
def sm4Rel (W : World) (n : Nat) (iv : Value) (wr : World) : Prop := ∃ k : Nat, iv = .int .i64 k ∧ k ≤ n ∧ Below W.heap.size W wr ∧ ∀ p, wr.cell? p = W.cell? p
set_option maxRecDepth 100000 in
set_option maxHeartbeats 1000000 in
theorem same4_any (o : List V4) (a b : Value) (W : World) (ha : Rd4 W a o) (hb : Rd4 W b o) : Calls Tryz.prog 7 #[a, b] W fun e w' => e = .returned (.bool true) ∧ Below W.heap.size W w' := by
  obtain ⟨ao, ca, rfl, ha1, ha2, ha3⟩ := ha
  obtain ⟨bo, cb, rfl, hb1, hb2, hb3⟩ := hb
  have HA := Lib.hid ha3
  have HB := Lib.hid hb3
  have hmx : maxLen = 9223372036854775807 := rfl
  generalize hn : o.length = n at *
  have HN := Lib.hid hn
  clear ha3 hb3 hn
  have hnm : (n : Int) ≤ 9223372036854775807 := by omega
  go_enter Tryz.func7, Tryz.ntmps7
  go_wp2
  go_loopw [5] (fun iv wr => sm4Rel W n iv wr) (fun iv _ => n - (intOf iv).toNat)
  case atStart => exact ⟨0, rfl, by omega, Below.refl _ _, fun _ => rfl⟩
  case round =>
    obtain ⟨k, rfl, hk, hbw, hcl⟩ := hrel
    by_cases hkn : k < n
    · obtain ⟨p, hp⟩ : ∃ p, o[k]? = some p := ⟨_, List.getElem?_eq_getElem (by rw [HN.out]; exact hkn)⟩
      obtain ⟨ga, offa, rfl, a0, a1, a2, a3⟩ := HA.out k p hp
      obtain ⟨gb, offb, rfl, b0, b1, b2, b3⟩ := HB.out k p hp
      rw [← hcl] at a0 a1 a2 a3 b0 b1 b2 b3
      go_wp2
      refine wp_region_noPanic ?_
      refine wp_region_any (by kernel_rfl) (any_of_T (S := (fun _ w' => w' = wr.drew)) _ _ _ _ ?_)
      change anyT _ _ _ _ _ _ _ _ wr.drew
      have aS : wr.drew = wr.drew := rfl
      have a0' : wr.drew.cell? ⟨ga, offa + k * 4, none⟩ = some (.string p.n) := a0
      have a1' : wr.drew.cell? ⟨ga, offa + k * 4 + 1, none⟩ = some (.string p.v) := a1
      have a2' : wr.drew.cell? ⟨ga, offa + k * 4 + 2, none⟩ = some (.bool p.b) := a2
      have a3' : wr.drew.cell? ⟨ga, offa + k * 4 + 3, none⟩ = some (.bool p.c) := a3
      have b0' : wr.drew.cell? ⟨gb, offb + k * 4, none⟩ = some (.string p.n) := b0
      have b1' : wr.drew.cell? ⟨gb, offb + k * 4 + 1, none⟩ = some (.string p.v) := b1
      have b2' : wr.drew.cell? ⟨gb, offb + k * 4 + 2, none⟩ = some (.bool p.b) := b2
      have b3' : wr.drew.cell? ⟨gb, offb + k * 4 + 3, none⟩ = some (.bool p.c) := b3
      refine anyT_take (i := 0) (v := .slice (some ⟨ga, offa, none⟩) n ca) (fun w' => w' = wr.drew) rfl (by kernel_rfl) (by kernel_rfl) (by kernel_rfl) (fun _ _ _ h => h) (fun _ _ _ _ hS => hS) (fun _ _ => Iff.rfl) (Clos.start _) (Or.inl ⟨by kernel_rfl, ?ay0⟩) aS (fun ac0 aS0 => ?ar0)
      case ay0 => (intro W hSw; subst hSw; go_simp)
      try simp only [Act.put, List.getElem_toArray, List.getElem_cons_succ, List.getElem_cons_zero, List.setIfInBounds_toArray, List.set_cons_zero, List.set_cons_succ]
      refine anyT_take (i := 1) (v := .int .i64 k) (fun w' => w' = wr.drew) rfl (by kernel_rfl) (by kernel_rfl) (by kernel_rfl) (fun _ _ _ h => h) (fun _ _ _ _ hS => hS) (fun _ _ => Iff.rfl) ac0 (Or.inl ⟨by kernel_rfl, ?ay1⟩) aS0 (fun ac1 aS1 => ?ar1)
      case ay1 => (intro W hSw; subst hSw; go_simp)
      try simp only [Act.put, List.getElem_toArray, List.getElem_cons_succ, List.getElem_cons_zero, List.setIfInBounds_toArray, List.set_cons_zero, List.set_cons_succ]
      refine anyT_take (i := 2) (v := .pointer (some ⟨ga, offa + k * 4, none⟩)) (fun w' => w' = wr.drew) rfl (by kernel_rfl) (by kernel_rfl) (by kernel_rfl) (fun _ _ _ h => h) (fun _ _ _ _ hS => hS) (fun _ _ => Iff.rfl) ac1 (Or.inl ⟨by kernel_rfl, ?ay2⟩) aS1 (fun ac2 aS2 => ?ar2)
      case ay2 => (intro W hSw; subst hSw; go_simp)
      try simp only [Act.put, List.getElem_toArray, List.getElem_cons_succ, List.getElem_cons_zero, List.setIfInBounds_toArray, List.set_cons_zero, List.set_cons_succ]
      refine anyT_take (i := 3) (v := .agg #[.string p.n, .string p.v, .bool p.b, .bool p.c]) (fun w' => w' = wr.drew) rfl (by kernel_rfl) (by kernel_rfl) (by kernel_rfl) (fun _ _ _ h => h) (fun _ _ _ _ hS => hS) (fun _ _ => Iff.rfl) ac2 (Or.inl ⟨by kernel_rfl, ?ay3⟩) aS2 (fun ac3 aS3 => ?ar3)
      case ay3 => (intro W hSw; subst hSw; exact yield_loadAgg rfl rfl (four_at a0' a1' a2' a3') aggVar)
      try simp only [Act.put, List.getElem_toArray, List.getElem_cons_succ, List.getElem_cons_zero, List.setIfInBounds_toArray, List.set_cons_zero, List.set_cons_succ]
      refine anyT_take (i := 4) (v := .slice (some ⟨gb, offb, none⟩) n cb) (fun w' => w' = wr.drew) rfl (by kernel_rfl) (by kernel_rfl) (by kernel_rfl) (fun _ _ _ h => h) (fun _ _ _ _ hS => hS) (fun _ _ => Iff.rfl) ac3 (Or.inl ⟨by kernel_rfl, ?ay4⟩) aS3 (fun ac4 aS4 => ?ar4)
      case ay4 => (intro W hSw; subst hSw; go_simp)
      try simp only [Act.put, List.getElem_toArray, List.getElem_cons_succ, List.getElem_cons_zero, List.setIfInBounds_toArray, List.set_cons_zero, List.set_cons_succ]
      refine anyT_take (i := 5) (v := .int .i64 k) (fun w' => w' = wr.drew) rfl (by kernel_rfl) (by kernel_rfl) (by kernel_rfl) (fun _ _ _ h => h) (fun _ _ _ _ hS => hS) (fun _ _ => Iff.rfl) ac4 (Or.inl ⟨by kernel_rfl, ?ay5⟩) aS4 (fun ac5 aS5 => ?ar5)
      case ay5 => (intro W hSw; subst hSw; go_simp)
      try simp only [Act.put, List.getElem_toArray, List.getElem_cons_succ, List.getElem_cons_zero, List.setIfInBounds_toArray, List.set_cons_zero, List.set_cons_succ]
      refine anyT_take (i := 6) (v := .pointer (some ⟨gb, offb + k * 4, none⟩)) (fun w' => w' = wr.drew) rfl (by kernel_rfl) (by kernel_rfl) (by kernel_rfl) (fun _ _ _ h => h) (fun _ _ _ _ hS => hS) (fun _ _ => Iff.rfl) ac5 (Or.inl ⟨by kernel_rfl, ?ay6⟩) aS5 (fun ac6 aS6 => ?ar6)
      case ay6 => (intro W hSw; subst hSw; go_simp)
      try simp only [Act.put, List.getElem_toArray, List.getElem_cons_succ, List.getElem_cons_zero, List.setIfInBounds_toArray, List.set_cons_zero, List.set_cons_succ]
      refine anyT_take (i := 7) (v := .agg #[.string p.n, .string p.v, .bool p.b, .bool p.c]) (fun w' => w' = wr.drew) rfl (by kernel_rfl) (by kernel_rfl) (by kernel_rfl) (fun _ _ _ h => h) (fun _ _ _ _ hS => hS) (fun _ _ => Iff.rfl) ac6 (Or.inl ⟨by kernel_rfl, ?ay7⟩) aS6 (fun ac7 aS7 => ?ar7)
      case ay7 => (intro W hSw; subst hSw; exact yield_loadAgg rfl rfl (four_at b0' b1' b2' b3') aggVar)
      try simp only [Act.put, List.getElem_toArray, List.getElem_cons_succ, List.getElem_cons_zero, List.setIfInBounds_toArray, List.set_cons_zero, List.set_cons_succ]
      refine anyT_take (i := 8) (v := .bool false) (fun w' => w' = wr.drew) rfl (by kernel_rfl) (by kernel_rfl) (by kernel_rfl) (fun _ _ _ h => h) (fun _ _ _ _ hS => hS) (fun _ _ => Iff.rfl) ac7 (Or.inl ⟨by kernel_rfl, ?ay8⟩) aS7 (fun ac8 aS8 => ?ar8)
      case ay8 => (intro W hSw; subst hSw; go_simp)
      try simp only [Act.put, List.getElem_toArray, List.getElem_cons_succ, List.getElem_cons_zero, List.setIfInBounds_toArray, List.set_cons_zero, List.set_cons_succ]
      refine anyT_done (by kernel_rfl) ?_
      refine NoPanic.normal ?_
      clear a0' a1' a2' a3' b0' b1' b2' b3' aS ac0 ac1 ac2 ac3 ac4 ac5 ac6 ac7 ac8 aS0 aS1 aS2 aS3 aS4 aS5 aS6 aS7 aS8 a0 a1 a2 a3 b0 b1 b2 b3
      have hbw2 := hbw.drew
      have hcl2 : ∀ q, wr.drew.cell? q = W.cell? q := hcl
      generalize wr.drew = w2 at *
      rename_i hK
      refine hK _ _ ?_
      clear hK
      go_wp2
      go_roundw
      case rel => exact ⟨k + 1, by go_num, by omega, hbw2, hcl2⟩
      case measure => simp [intOf]; omega
    · obtain rfl : k = n := by omega
      go_wp2
      go_ret
      exact ⟨rfl, hbw⟩
end Go.Proofs.YtbmnngliapmgfaaGreatDoor
