/- Rows that grow: texts, numbers, redirections. -/
import Derived.Test.YtoahgblgchmclaaPL
namespace Go.Proofs.Ytoahgblgchmclaa
open Go.RowKit
set_option linter.unusedVariables false
set_option linter.unusedSimpArgs false
theorem info_of {t : TypeId} {z : Value} {sz by_ : Nat} (h : (Try.prog.info? t).map (fun i => (i.zero, i.size, i.bytes)) = some (some z, sz, by_)) : ∃ i, Try.prog.info? t = some i ∧ i.zero = some z ∧ i.size = sz ∧ i.bytes = by_ := by
  cases hi : Try.prog.info? t with
  | none => rw [hi] at h; cases h
  | some i =>
    rw [hi] at h
    simp only [Option.map_some, Option.some.injEq, Prod.mk.injEq] at h
    exact ⟨i, rfl, h.1, h.2.1, h.2.2⟩
theorem info_str : ∃ i, Try.prog.info? 9 = some i ∧ i.zero = some (.string .empty) ∧ i.size = 1 ∧ i.bytes = 16 := info_of (by kernel_rfl)
theorem info_int : ∃ i, Try.prog.info? 3 = some i ∧ i.zero = some (.int .i64 0) ∧ i.size = 1 ∧ i.bytes = 8 := info_of (by kernel_rfl)
theorem info_rd : ∃ i, Try.prog.info? 43 = some i ∧ i.zero = some (.agg #[.int .i64 0, .string .empty, .string .empty]) ∧ i.size = 3 ∧ i.bytes = 40 := info_of (by kernel_rfl)
theorem newT (w : World) (cs : List Value) (t : TypeId) : ∀ j u, cs[j]? = some u → (w.alloc (.cells cs.toArray t)).cell? ((⟨w.heap.size, 0, none⟩ : Addr).add j) = some u := by
  intro j u hj
  rw [Addr.add_lit, Nat.zero_add, cell_of_row _ w.heap.size j _ _ (0, 0) (heap_alloc_new w _)]
  simpa using hj
section
variable {w w1 : World} {ops : Array Oper} {rest : List Oper} {o : Oper} {a : Act} {Q : Exit → Act → World → Prop} {K : Nat → Prop} {v : Value} {g n : Nat}
/-- where the row lies behind an append. -/
def Now (w : World) (v v' : Value) : Prop := ∀ k, v'.ownBlock = some k → v.ownBlock = some k ∨ w.heap.size ≤ k
/-- 'append(l, text)'. -/
theorem wpList_str (hgd : o.guard = none) (s x : Operand) (ho : o.op = .call { callee := .builtin .append, args := #[s, x], argTypes := #[28, 28] }) (l : List Bs) (t : Bs) (hs : a.eval s = v)
    (hw : w1 = w.alloc (.cells #[.string (st t)] 9)) (hx : a.eval x = .slice (some ⟨w.heap.size, 0, none⟩) 1 1) (h : Strs w K v l) (hl : l.length ≤ 100000)
    (k : ∀ g' cap w', Strs w' (own1 (.slice (some ⟨g', 0, none⟩) (l.length + 1) cap)) (.slice (some ⟨g', 0, none⟩) (l.length + 1) cap) (l ++ [t]) → (v.ownBlock = some g' ∨ g' = w.heap.size + 1) → Fr (own1 v) w w' → wpList Try.prog ops Q rest (a.put o.dst (.slice (some ⟨g', 0, none⟩) (l.length + 1) cap)) w') :
    wpList Try.prog ops Q (o :: rest) a w1 := by
  obtain ⟨i, hi, hz0, hz1, hz2⟩ := info_str
  subst hw
  have hrow : (w.alloc (.cells #[.string (st t)] 9)).ownsRow 0 9 1 v l.length (l.map strV) := ownz_fr h.1 ((Fr.refl (fun _ => False) w).alloc _) (fun _ _ => id)
  refine wpList_append_lies _ hgd s x 28 ho 0 9 i _ 1 16 Try.underlying28 hi hz0 hz1 hz2 rfl (by decide) v l.length (l.map strV) hs hrow ⟨w.heap.size, 0, none⟩ 1 1 [.string (st t)] hx rfl (newT w [.string (st t)] 9) (by intro u hu; simp at hu; subst hu; rfl) (by decide) (by unfold maxLen; omega) (by omega) (Nat.zero_le _) (w.heap.size + 1) (by simp) ?_
  intro g' cap w' hown hgrow hat hlt
  refine k g' cap w' ⟨?_, fun k e => e⟩ hat (((Fr.refl _ w).alloc _).trans (Fr.grown hgrow))
  have e : (l ++ [t]).length = l.length + 1 := by simp
  rw [e, List.map_append]
  exact hown
/-- 'append(l, number)'. -/
theorem wpList_int (hgd : o.guard = none) (s x : Operand) (ho : o.op = .call { callee := .builtin .append, args := #[s, x], argTypes := #[27, 27] }) (l : List Int) (t : Int) (hs : a.eval s = v)
    (hw : w1 = w.alloc (.cells #[.int .i64 t] 3)) (hx : a.eval x = .slice (some ⟨w.heap.size, 0, none⟩) 1 1) (h : Ints w K v l) (hl : l.length ≤ 100000)
    (k : ∀ g' cap w', Ints w' (own1 (.slice (some ⟨g', 0, none⟩) (l.length + 1) cap)) (.slice (some ⟨g', 0, none⟩) (l.length + 1) cap) (l ++ [t]) → (v.ownBlock = some g' ∨ g' = w.heap.size + 1) → Fr (own1 v) w w' → wpList Try.prog ops Q rest (a.put o.dst (.slice (some ⟨g', 0, none⟩) (l.length + 1) cap)) w') :
    wpList Try.prog ops Q (o :: rest) a w1 := by
  obtain ⟨i, hi, hz0, hz1, hz2⟩ := info_int
  subst hw
  have hrow : (w.alloc (.cells #[.int .i64 t] 3)).ownsRow 0 3 1 v l.length (l.map (Value.int .i64)) := ownz_fr h.1 ((Fr.refl (fun _ => False) w).alloc _) (fun _ _ => id)
  refine wpList_append_lies _ hgd s x 27 ho 0 3 i _ 1 8 Try.underlying27 hi hz0 hz1 hz2 rfl (by decide) v l.length (l.map (Value.int .i64)) hs hrow ⟨w.heap.size, 0, none⟩ 1 1 [.int .i64 t] hx rfl (newT w [.int .i64 t] 3) (by intro u hu; simp at hu; subst hu; rfl) (by decide) (by unfold maxLen; omega) (by omega) (Nat.zero_le _) (w.heap.size + 1) (by simp) ?_
  intro g' cap w' hown hgrow hat hlt
  refine k g' cap w' ⟨?_, fun k e => e⟩ hat (((Fr.refl _ w).alloc _).trans (Fr.grown hgrow))
  have e : (l ++ [t]).length = l.length + 1 := by simp
  rw [e, List.map_append]
  exact hown
/-- 'append(l, redirection)'. -/
theorem wpList_rd (hgd : o.guard = none) (s x : Operand) (ho : o.op = .call { callee := .builtin .append, args := #[s, x], argTypes := #[29, 29] }) (l : List Rd) (t : Rd) (hs : a.eval s = v)
    (hw : w1 = w.alloc (.cells #[.int .i64 t.fd, .string (st t.op), .string (st t.word)] 43)) (hx : a.eval x = .slice (some ⟨w.heap.size, 0, none⟩) 1 1) (h : Rds w K v l) (hl : l.length ≤ 100000)
    (k : ∀ g' cap w', Rds w' (own1 (.slice (some ⟨g', 0, none⟩) (l.length + 1) cap)) (.slice (some ⟨g', 0, none⟩) (l.length + 1) cap) (l ++ [t]) → (v.ownBlock = some g' ∨ g' = w.heap.size + 1) → Fr (own1 v) w w' → wpList Try.prog ops Q rest (a.put o.dst (.slice (some ⟨g', 0, none⟩) (l.length + 1) cap)) w') :
    wpList Try.prog ops Q (o :: rest) a w1 := by
  obtain ⟨i, hi, hz0, hz1, hz2⟩ := info_rd
  subst hw
  have hrow : (w.alloc (.cells #[.int .i64 t.fd, .string (st t.op), .string (st t.word)] 43)).ownsRow 0 43 3 v l.length (l.flatMap rdC) := ownz_fr h.1 ((Fr.refl (fun _ => False) w).alloc _) (fun _ _ => id)
  refine wpList_append_lies _ hgd s x 29 ho 0 43 i _ 3 40 Try.underlying29 hi hz0 hz1 hz2 rfl (by decide) v l.length (l.flatMap rdC) hs hrow ⟨w.heap.size, 0, none⟩ 1 1 (rdC t) hx rfl (newT w (rdC t) 43) (by intro u hu; unfold rdC at hu; simp at hu; rcases hu with rfl | rfl | rfl <;> rfl) (by decide) (by unfold maxLen; omega) (by omega) (Nat.zero_le _) (w.heap.size + 1) (by simp) ?_
  intro g' cap w' hown hgrow hat hlt
  refine k g' cap w' ⟨?_, fun k e => e⟩ hat (((Fr.refl _ w).alloc _).trans (Fr.grown hgrow))
  have e : (l ++ [t]).length = l.length + 1 := by simp
  rw [e, List.flatMap_append, List.flatMap_cons, List.flatMap_nil, List.append_nil]
  exact hown
end
end Go.Proofs.Ytoahgblgchmclaa
