/- Rows of numbers: words, copies, changed. -/
import Derived.Test.YtjjkeemaebmcfaaDD
import Derived.Deep.AppendLies
import Derived.OwnWalk
namespace Go.Proofs.Ytjjkeemaebmcfaa
open Go.RowKit
set_option linter.unusedVariables false
set_option linter.unusedSimpArgs false
variable {W W' : World} {P : Nat} {e : Tab}

abbrev cI (v : Int) : Value := .int .i64 v
/-- these numbers lie from here on. -/
def Rd (W : World) (g off : Nat) (l : List Int) : Prop := ∀ (j : Nat) (v : Int), l[j]? = some v → W.cell? ⟨g, off + j, none⟩ = some (cI v)
/-- .. in a block of one's own. -/
def OR (W : World) (base g cap n : Nat) (l : List Int) : Prop := l.length = n ∧ W.ownsRow base 3 1 (.slice (some ⟨g, 0, none⟩) n cap) n (l.map cI)
theorem OR.form {base g cap n : Nat} {l : List Int} (h : OR W base g cap n l) : base ≤ g ∧ g < W.heap.size ∧ n ≤ cap ∧ cap ≤ maxLen := by
  rcases h.2.2 with ⟨h1, _⟩ | ⟨g1, cap1, cur, h1, h2, h3, h4, h5, _⟩
  · cases h1
  · obtain ⟨e1, _, e3⟩ := Value.slice.inj h1
    cases e1
    subst e3
    exact ⟨h2, (Array.getElem?_eq_some_iff.1 h3).1, h4, h5⟩
theorem OR.rd {base g cap n : Nat} {l : List Int} (h : OR W base g cap n l) : Rd W g 0 l := by
  intro j v hj
  have hjl := (List.getElem?_eq_some_iff.1 hj).1
  have hl := h.1
  rw [Nat.zero_add, h.2.cellAt j (by omega), List.getElem?_map, hj]
  rfl
theorem OR.set {base g cap n : Nat} {l : List Int} (h : OR W base g cap n l) (j : Nat) (v : Int) : OR (W.setCell ⟨g, j, none⟩ (cI v)) base g cap n (l.set j v) := by
  refine ⟨by simpa using h.1, ?_⟩
  have := (h.2.stored j (cI v)).1
  rwa [List.map_set]
theorem OR.fr {S : Nat → Prop} {base g cap n : Nat} {l : List Int} (h : OR W base g cap n l) (k : Fr S W W') (hs : ¬ S g) : OR W' base g cap n l := by
  refine ⟨h.1, h.2.1, ?_⟩
  rcases h.2.2 with h1 | ⟨g1, cap1, cur, h1, h2, h3, h4⟩
  · exact .inl h1
  · refine .inr ⟨g1, cap1, cur, h1, h2, ?_, h4⟩
    obtain ⟨e1, _, _⟩ := Value.slice.inj h1
    cases e1
    rw [k.block g (Array.getElem?_eq_some_iff.1 h3).1 hs]; exact h3
theorem OR.frozen {base g cap n : Nat} {l : List Int} (h : OR W base g cap n l) (j : Nat) : W.frozen? ⟨g, j, none⟩ = false := h.2.frozenAt j
theorem OR.weak {base base' g cap n : Nat} {l : List Int} (h : OR W base g cap n l) (hb : base' ≤ base) : OR W base' g cap n l := by
  refine ⟨h.1, h.2.1, ?_⟩
  rcases h.2.2 with h1 | ⟨g1, cap1, cur, h1, h2, h3⟩
  · exact .inl h1
  · exact .inr ⟨g1, cap1, cur, h1, Nat.le_trans hb h2, h3⟩
theorem Rd.fr {S : Nat → Prop} {g off : Nat} {l : List Int} (h : Rd W g off l) (k : Fr S W W') (hs : ¬ S g) : Rd W' g off l := fun j v hj => k.cell (h j v hj) hs
theorem Fr.grown {S : Nat → Prop} {a b c : World} {r : Nat} (h : Fr S a b) (k : b.grownBy c (some r)) (hr : a.heap.size ≤ r) : Fr S a c :=
  ⟨k.os.trans h.os, k.tape.trans h.tape, k.output.trans h.output, Nat.le_trans h.size k.size, fun i hi hn => (k.block i (Nat.lt_of_lt_of_le hi h.size) (fun e => by cases e; omega)).trans (h.block i hi hn)⟩
theorem intsU : Try.prog.underlying 45 = some (.slice 3) := Try.underlying45
theorem info_int : ∃ i, Try.prog.info? 3 = some i ∧ i.zero = some (.int .i64 0) ∧ i.size = 1 ∧ i.bytes = 8 := by
  obtain ⟨i, hi⟩ : ∃ i, Try.prog.info? 3 = some i := by
    cases h : Try.prog.info? 3 with
    | none => have : (Try.prog.info? 3).isSome = true := by kernel_rfl
              rw [h] at this; cases this
    | some i => exact ⟨i, rfl⟩
  have h2 : (Try.prog.info? 3).map (fun i => (i.zero, i.size, i.bytes)) = some (some (.int .i64 0), 1, 8) := by kernel_rfl
  rw [hi] at h2
  simp only [Option.map_some, Option.some.injEq, Prod.mk.injEq] at h2
  exact ⟨i, hi, h2.1, h2.2.1, h2.2.2⟩
theorem elemI : (Try.prog.info? 3).map (·.size) = some 1 := by kernel_rfl
/-- 'copy' between slices, by cells. -/
theorem wpList_copy_set {P : Program} {w : World} {ops : Array Oper} {rest : List Oper} {o : Oper} {a : Act} {Q : Exit → Act → World → Prop} (hgd : o.guard = none) (d s : Operand) (dT sT : TypeId)
    (ho : o.op = .call { callee := .builtin .copy, args := #[d, s], argTypes := #[dT, sT] }) (elem : TypeId) (hu : P.underlying dT = some (.slice elem)) (hsz : (P.info? elem).map (·.size) = some 1)
    (dp sp : Option Addr) (dLen dCap sLen sCap : Nat) (hd : a.eval d = .slice dp dLen dCap) (hs : a.eval s = .slice sp sLen sCap)
    (g off : Nat) (cs : List Value) (hn : cs.length = Nat.min sLen dLen)
    (hpos : 0 < cs.length → dp = some ⟨g, off, none⟩ ∧ ∃ ad, sp = some ad ∧ ∀ j v, cs[j]? = some v → w.cell? (ad.add j) = some v)
    (hc : ∀ j, j < cs.length → (w.cell? ⟨g, off + j, none⟩).isSome = true) (hf : ∀ j, j < cs.length → w.frozen? ⟨g, off + j, none⟩ = false) (h1 : ∀ v ∈ cs, v.oneCell' = true)
    (h : wpList P ops Q rest (a.put o.dst (goInt cs.length)) (w.setCells g off cs)) :
    wpList P ops Q (o :: rest) a w := by
  refine wpList_plain hgd fun K hK => ?_
  have hrun : (Builtin.copy_ #[dT, sT] o.type #[.slice dp dLen dCap, .slice sp sLen sCap]).run P w = .ok (goInt cs.length) (w.setCells g off cs) := by
    by_cases h0 : cs.length = 0
    · obtain rfl : cs = [] := List.eq_nil_of_length_eq_zero h0
      exact run_copy_none (P := P) w dT sT o.type elem dp sp dLen dCap sLen sCap hu hsz (by simpa using hn.symm)
    · obtain ⟨rfl, ad, rfl, hsrc⟩ := hpos (by omega)
      exact run_copy_cells (P := P) w dT sT o.type elem g off dLen dCap ad sLen sCap cs hu hsz hn hsrc hc hf h1
  unfold Oper.wp
  simp [execOp, ho, resolve, invoke, builtin, hd, hs, hrun, Result.andThen]
  exact hK _ _ h
/-- all cells of a row of one's own set. -/
theorem OR.copied {base g cap n : Nat} {l : List Int} (h : OR W base g cap n l) (m : List Int) (hm : m.length = n) : OR (W.setCells g 0 (m.map cI)) base g cap n m := by
  have key : ∀ (vs : List Int) (o : Nat) (W : World) (l : List Int), OR W base g cap n l → o + vs.length = n → ∃ l', OR (W.setCells g o (vs.map cI)) base g cap n l' ∧ l'.take o = l.take o ∧ l'.drop o = vs := by
    intro vs
    induction vs with
    | nil => intro o W l h hv; exact ⟨l, h, rfl, List.drop_eq_nil_of_le (by have := h.1; simp at hv; omega)⟩
    | cons v r ih =>
      intro o W l h hv
      have hl := h.1
      simp at hv
      obtain ⟨l', h1, h2, h3⟩ := ih (o + 1) _ _ (h.set o v) (by omega)
      have hl' := h1.1
      have h4 : l'[o]? = some v := by
        have := congrArg (·[o]?) h2
        simp only [List.getElem?_take, Nat.lt_succ_self, if_true] at this
        rw [this, List.getElem?_set_self (by omega)]
      refine ⟨l', h1, ?_, ?_⟩
      · have := congrArg (List.take o) h2
        rw [List.take_take, List.take_take, Nat.min_eq_left (by omega)] at this
        rw [this, List.take_set_of_le (by omega)]
      · rw [List.drop_eq_getElem_cons (by omega), h3]
        congr 1
        rw [List.getElem?_eq_getElem (by omega)] at h4
        exact Option.some.inj h4
  obtain ⟨l', h1, _, h3⟩ := key m 0 W l h (by omega)
  rw [List.drop_zero] at h3
  subst h3
  exact h1
theorem rd_map {g off : Nat} {l : List Int} (h : Rd W g off l) : ∀ j v, (l.map cI)[j]? = some v → W.cell? ((⟨g, off, none⟩ : Addr).add j) = some v := by
  intro j v hj
  rw [List.getElem?_map] at hj
  cases hx : l[j]? with
  | none => rw [hx] at hj; cases hj
  | some x =>
    rw [hx] at hj
    cases hj
    rw [Addr.add_lit]
    exact h j x hx
theorem one_map (l : List Int) : ∀ v ∈ l.map cI, v.oneCell' = true := by
  intro v hv
  obtain ⟨x, _, rfl⟩ := List.mem_map.1 hv
  rfl
theorem changed_any (l : List Int) (g off n c k : Nat) (v : Int) (hn : l.length = n) (hk : k < n) (hb : n ≤ 1000) (w : World) (h : Rd w g off l) :
    Calls Try.prog 35 #[.slice (some ⟨g, off, none⟩) n c, .int .i64 k, .int .i64 v] w fun r w' => ∃ G cap, r = .returned (.slice (some ⟨G, 0, none⟩) n cap) ∧ OR w' w.heap.size G cap n (l.set k v) ∧ Fr (fun _ => False) w w' := by
  obtain ⟨i, hi, hz0, hz1, hz2⟩ := info_int
  have hml : n ≤ maxLen := by unfold maxLen; omega
  obtain ⟨w1, hr1, ho1, hg1⟩ := run_make_full (P := Try.prog) (w := w) w.heap.size 45 3 i (.int .i64 0) 1 intsU hi hz0 hz1 .i64 .i64 n (by rw [hz2]; omega) hml (Nat.le_refl _)
  have hF1 : Fr (fun _ => False) w w1 := ⟨hg1.os, hg1.tape, hg1.output, hg1.size, fun i hi _ => hg1.block i hi (by simp)⟩
  have hO1 : OR w1 w.heap.size w.heap.size n n (List.replicate n 0) := by
    refine ⟨by simp, ?_⟩
    rw [List.map_replicate]
    rw [Nat.mul_one] at ho1
    rw [show (Value.int .i64 0).cells = #[.int .i64 0] from rfl, toList_madeCells_one] at ho1
    exact ho1
  have hO2 := hO1.copied l hn
  have hF2 := Fr.setCells (S := fun _ => False) (g := w.heap.size) (.inr (Nat.le_refl _)) (l.map cI) 0 w1 hF1
  have hR1 := Lib.hid (rd_map (h.fr hF1 id))
  have hC1 := Lib.hid (fun (j : Nat) (hj : j < (l.map cI).length) => (show (w1.cell? ⟨w.heap.size, 0 + j, none⟩).isSome = true by
    have hj2 : j < n := by simpa [hn] using hj
    rw [hO1.rd j 0 (by simp [hj2])]; rfl))
  have hFz1 := Lib.hid (fun (j : Nat) (_ : j < (l.map cI).length) => (by rw [Nat.zero_add]; exact hO1.frozen j : w1.frozen? ⟨w.heap.size, 0 + j, none⟩ = false))
  have hfz := hO2.frozen k
  have hc2 := hO2.rd k (l[k]'(by omega)) (List.getElem?_eq_getElem _)
  rw [Nat.zero_add] at hc2
  have HO2 := Lib.hid (hO2.set k v)
  have HF2 := Lib.hid hF2
  clear hO1 hO2 hF1 hF2 ho1 hg1
  go_enter Try.func35, Try.ntmps35
  go_wp2_with (refine wpList_copy_set rfl _ _ _ _ rfl 3 Try.underlying45 elemI _ _ _ _ _ _ rfl rfl w.heap.size 0 (l.map cI) (by simp [hn, Nat.min_self]) (fun _ => ⟨rfl, _, rfl, hR1.out⟩) hC1.out hFz1.out (one_map l) ?_)
  go_ret
  exact ⟨_, _, rfl, HO2.out, HF2.out.setCell (.inr (Nat.le_refl _)) _⟩
end Go.Proofs.Ytjjkeemaebmcfaa
