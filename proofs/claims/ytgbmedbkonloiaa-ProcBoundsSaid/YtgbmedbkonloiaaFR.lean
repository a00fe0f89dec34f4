/- Appends of any number of processes inside a region that draws its order; the document's Wait. -/
import Derived.Test.YtgbmedbkonloiaaFP
import Derived.Deep.DrawnRows
namespace Go.Proofs.Ytgbmedbkonloiaa
open Go.RowKit
set_option linter.unusedVariables false
set_option linter.unusedSimpArgs false
theorem infoRProc : (Try.prog.info? 35).map (fun i => (i.zero, i.size, i.bytes)) = some (some (.agg #[.int .i64 0, .int .i64 0, .int .i64 0, .int .i64 0, .int .i64 0, .bool false, .bool false]), 7, 48) := by kernel_rfl
theorem info_parts {e : TypeId} {z : Value} {s b : Nat} (h : (Try.prog.info? e).map (fun i => (i.zero, i.size, i.bytes)) = some (some z, s, b)) : ∃ i, Try.prog.info? e = some i ∧ i.zero = some z ∧ i.size = s ∧ i.bytes = b := by
  cases hi : Try.prog.info? e with
  | none => rw [hi] at h; cases h
  | some i =>
    rw [hi] at h
    simp only [Option.map_some, Option.some.injEq, Prod.mk.injEq] at h
    exact ⟨i, rfl, h.1, h.2.1, h.2.2⟩
theorem append_none (g n cap : Nat) (p : Option Addr) (c : Nat) (w : World) (hn : n ≤ cap) (hc : cap ≤ maxLen) : (Builtin.append_ #[40, 40] 40 #[.slice (some ⟨g, 0, none⟩) n cap, .slice p 0 c]).run Try.prog w = .ok (.slice (some ⟨g, 0, none⟩) n cap) w := by
  obtain ⟨i0, hi, hz0, hz1, hz2⟩ := info_parts infoRProc
  cases p with
  | none => simp [Builtin.append_, run_underlying Try.underlying40, sizeOf, typeInfo, hi, Builtin.lenOf, Builtin.firstCells, storeCells]; intro h; omega
  | some a => simp [Builtin.append_, run_underlying Try.underlying40, sizeOf, typeInfo, hi, Builtin.lenOf, Builtin.firstCells, storeCells, loadCells, loadCellsFrom]; intro h; omega
/-- cells that are to be appended: from the slice's address on. -/
def News (W : World) (p : Option Addr) (m : Nat) (news : List Value) : Prop := news.length = m * 7 ∧ (∀ u ∈ news, u.oneCell' = true) ∧ (0 < m → ∃ g off, p = some ⟨g, off, none⟩ ∧ ∀ j u, news[j]? = some u → W.cell? ⟨g, off + j, none⟩ = some u)
theorem add_at (g off j : Nat) : (⟨g, off, none⟩ : Addr).add j = ⟨g, off + j, none⟩ := by
  unfold Addr.add
  split
  · rename_i h; subst h; rfl
  · rfl
/-- an append of entries, none or some, as a step of a region. -/
theorem step_append_any {ops : Array Oper} {o : Oper} {a : Act} {K : Act → World → Prop} {Q : Exit → Act → World → Prop} {E : Prop} {w : World} (hgd : o.guard = none) (s x : Operand)
    (ho : o.op = .call { callee := .builtin .append, args := #[s, x], argTypes := #[40, 40] }) (hty : o.type = 40) (base g0 n cap0 : Nat) (xs : List Value)
    (hs : a.eval s = .slice (some ⟨g0, 0, none⟩) n cap0) (hown : w.ownsRow base 35 7 (.slice (some ⟨g0, 0, none⟩) n cap0) n xs)
    (p : Option Addr) (m c : Nat) (hx : a.eval x = .slice p m c) (news : List Value) (hnews : News w p m news) (hn : n ≤ 1000000) (hm : m ≤ 1000000) (hbase : base ≤ w.heap.size)
    (h : ∀ g cap w', w'.ownsRow base 35 7 (.slice (some ⟨g, 0, none⟩) (n + m) cap) (n + m) (xs ++ news) → w.grownBy w' (some g0) → (g = g0 ∨ g = w.heap.size) → g < w'.heap.size → K (a.put o.dst (.slice (some ⟨g, 0, none⟩) (n + m) cap)) w') :
    if Region.wanted o (yielded ops a.tmps) = true then Oper.wp Try.prog o a w K Q else E := by
  obtain ⟨i0, hi, hz0, hz1, hz2⟩ := info_parts infoRProc
  by_cases h0 : 0 < m
  · obtain ⟨hl, h1, hp⟩ := hnews
    obtain ⟨g, off, rfl, hc⟩ := hp h0
    refine step_append_lies w hgd s x 40 ho base 35 i0 _ 7 48 Try.underlying40 hi hz0 hz1 hz2 rfl (by decide) _ n xs hs hown ⟨g, off, none⟩ m c news hx hl (fun j u hu => by rw [add_at]; exact hc j u hu) h1 h0 (by unfold maxLen; omega) (by omega) hbase w.heap.size rfl ?_
    intro g cap w' k1 k2 k3 k4
    refine h g cap w' k1 k2 ?_ k4
    rcases k3 with k3 | k3
    · left; simpa [Value.ownBlock] using k3.symm
    · exact .inr k3
  · have hm0 : m = 0 := by omega
    subst hm0
    have hnil : news = [] := List.length_eq_zero_iff.1 (by have := hnews.1; omega)
    subst hnil
    have hform : n ≤ cap0 ∧ cap0 ≤ maxLen ∧ g0 < w.heap.size := by
      rcases hown.2 with ⟨h1, _⟩ | ⟨g, cap, cur, h1, _, h2, h3, h4, _⟩
      · cases h1
      · obtain ⟨e1, _, e3⟩ := Value.slice.inj h1
        cases e1
        subst e3
        exact ⟨h3, h4, (Array.getElem?_eq_some_iff.1 h2).1⟩
    have hw : Region.wanted o (yielded ops a.tmps) = true := by simp [Region.wanted, hgd]
    rw [if_pos hw]
    have hrun := append_none g0 n cap0 p c w hform.1 hform.2.1
    unfold Oper.wp execOp
    simp only [ho, hty, resolve, invoke, builtin, Sem.run_bind, Sem.run_pure, Result.andThen_ok, List.map_toArray, List.map_cons, List.map_nil, hs, hx, hrun]
    refine h g0 cap0 w (by rw [Nat.add_zero, List.append_nil]; exact hown) ⟨rfl, rfl, rfl, Nat.le_refl _, fun _ _ _ => rfl⟩ (.inl rfl) hform.2.2
end Go.Proofs.Ytgbmedbkonloiaa
