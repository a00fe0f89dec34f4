/- The parser's small steps. -/
import Derived.Test.YtoahgblgchmclaaPF
import Derived.Test.YtoahgblgchmclaaPD
namespace Go.Proofs.Ytoahgblgchmclaa
open Go.RowKit
set_option linter.unusedVariables false
set_option linter.unusedSimpArgs false
theorem field_tok (w : World) (x y z : Value) : (Instr.field 40 (.agg #[x, y, z]) 0).run Try.prog w = .ok x w ∧ (Instr.field 40 (.agg #[x, y, z]) 1).run Try.prog w = .ok y w ∧ (Instr.field 40 (.agg #[x, y, z]) 2).run Try.prog w = .ok z w :=
  ⟨by kernel_rfl, by kernel_rfl, by kernel_rfl⟩
/-- a field of a token that is a value. -/
theorem wpList_field {w : World} {ops : Array Oper} {rest : List Oper} {o : Oper} {a : Act} {Q : Exit → Act → World → Prop} (hg : o.guard = none) (x : Operand) (f : Nat) (ho : o.op = .field 40 x f) (c0 c1 c2 : Value)
    (hx : a.eval x = .agg #[c0, c1, c2]) (v : Value) (hv : #[c0, c1, c2][f]? = some v) (h : wpList Try.prog ops Q rest (a.put o.dst v) w) : wpList Try.prog ops Q (o :: rest) a w := by
  refine wpList_plain hg fun K hK => ?_
  obtain ⟨h0, h1, h2⟩ := field_tok w c0 c1 c2
  have hr : (Instr.field 40 (.agg #[c0, c1, c2]) f).run Try.prog w = .ok v w := by
    match f, hv with
    | 0, hv => cases hv; exact h0
    | 1, hv => cases hv; exact h1
    | 2, hv => cases hv; exact h2
  unfold Oper.wp
  simp [execOp, ho, hx, hr, Result.andThen]
  exact hK _ _ h
/-- an answer of one struct of three cells. -/
theorem res3 {W : World} {G : Nat} (fn : Func) (ty : TypeId) (hfn : fn.results = #[.cell 2 ty]) {x y z : Value} (ht : (∀ w, (isAgg ty).run Try.prog w = .ok true w) ∧ ∀ w, (sizeOf ty).run Try.prog w = .ok 3 w)
    (h0 : W.cell? ⟨G, 0, none⟩ = some x) (h1 : W.cell? ⟨G, 1, none⟩ = some y) (h2 : W.cell? ⟨G, 2, none⟩ = some z) (tmps : Array Value) (ht2 : tmps.getD 2 undef = .pointer (some ⟨G, 0, none⟩)) :
    (results fn tmps).run Try.prog W = .ok (.agg #[x, y, z]) W := by
  have hl : (loadCells ⟨G, 0, none⟩ 3).run Try.prog W = .ok #[x, y, z] W := by
    have := run_loadCells_list (P := Try.prog) W ⟨G, 0, none⟩ [x, y, z] (fun j v hv => by
      rw [Addr.add_lit, Nat.zero_add]
      match j, hv with
      | 0, hv => simp at hv; subst hv; exact h0
      | 1, hv => simp at hv; subst hv; exact h1
      | 2, hv => simp at hv; subst hv; exact h2)
    exact this
  have hv : (loadVar ty ⟨G, 0, none⟩).run Try.prog W = .ok (.agg #[x, y, z]) W := by
    simp [loadVar, ht.1, ht.2, hl]
  simp only [Array.getD_eq_getD_getElem?] at ht2
  simp [results, hfn, ht2, hv, asAddr]
theorem cells5 {W : World} {P : Nat} {a b c d e : Value} {T : TypeId} (h : W.heap[P]? = some (.cells #[a, b, c, d, e] T (0, 0))) : W.cell? ⟨P, 0, none⟩ = some a ∧ W.cell? ⟨P, 1, none⟩ = some b ∧ W.cell? ⟨P, 2, none⟩ = some c ∧ W.cell? ⟨P, 3, none⟩ = some d ∧ W.cell? ⟨P, 4, none⟩ = some e ∧ W.frozen? ⟨P, 0, none⟩ = false ∧ W.frozen? ⟨P, 1, none⟩ = false ∧ W.frozen? ⟨P, 2, none⟩ = false ∧ W.frozen? ⟨P, 3, none⟩ = false ∧ W.frozen? ⟨P, 4, none⟩ = false :=
  ⟨by rw [Lib.cell_of_heap h]; rfl, by rw [Lib.cell_of_heap h]; rfl, by rw [Lib.cell_of_heap h]; rfl, by rw [Lib.cell_of_heap h]; rfl, by rw [Lib.cell_of_heap h]; rfl, Lib.frozen_of_heap h _, Lib.frozen_of_heap h _, Lib.frozen_of_heap h _, Lib.frozen_of_heap h _, Lib.frozen_of_heap h _⟩
theorem Fr.set {W W' : World} {p : Nat} (f : Fr (· = p) W W') (j : Nat) (v : Value) : Fr (· = p) W (W'.setCell ⟨p, j, none⟩ v) := f.setCell (p := ⟨p, j, none⟩) (.inl rfl) v
theorem agg40 : (∀ w, (isAgg 40).run Try.prog w = .ok true w) ∧ ∀ w, (sizeOf 40).run Try.prog w = .ok 3 w := ⟨fun w => by kernel_rfl, fun w => by kernel_rfl⟩
theorem aggRd : (∀ w, (isAgg 43).run Try.prog w = .ok true w) ∧ ∀ w, (sizeOf 43).run Try.prog w = .ok 3 w := ⟨fun w => by kernel_rfl, fun w => by kernel_rfl⟩
/-- of one that has just been made. -/
theorem resN3 {W : World} {G : Nat} (fn : Func) (ty : TypeId) (hfn : fn.results = #[.cell 2 ty]) {x y z : Value} {t : TypeId} {fz : Nat × Nat} (ht : (∀ w, (isAgg ty).run Try.prog w = .ok true w) ∧ ∀ w, (sizeOf ty).run Try.prog w = .ok 3 w)
    (h : W.heap[G]? = some (.cells #[x, y, z] t fz)) (tmps : Array Value) (ht2 : tmps.getD 2 undef = .pointer (some ⟨G, 0, none⟩)) :
    (results fn tmps).run Try.prog W = .ok (.agg #[x, y, z]) W :=
  res3 fn ty hfn ht (by rw [Lib.cell_of_heap h]; rfl) (by rw [Lib.cell_of_heap h]; rfl) (by rw [Lib.cell_of_heap h]; rfl) tmps ht2
theorem heap_alloc_one (X : World) (A B : Obj) {G : Nat} (hG : X.heap.size = G) : ((X.alloc A).alloc B).heap[G]? = some A := by
  subst hG
  exact (((Fr.refl (fun _ => False) (X.alloc A)).alloc B).block X.heap.size (heap_lt (heap_alloc_new X A)) id).trans (heap_alloc_new X A)
theorem set_size (X : World) (a : Addr) (v : Value) : (X.setCell a v).heap.size = X.heap.size := by simp
section
variable {W W' : World} {n p g cap : Nat} {K : Nat → Prop} {all : List Tk} {nv : Value} {s : S}
theorem PX.tok0 (h : PX W n K g cap all nv s) :
    W.cell? ⟨g, pos all s * 3, none⟩ = some (.int .i64 s.hd.kind) ∧ W.cell? ⟨g, pos all s * 3 + 1, none⟩ = some (.string (st s.hd.text)) ∧ W.cell? ⟨g, pos all s * 3 + 2, none⟩ = some (.int .i64 s.hd.at_) := by
  have := h.tok 0 s.hd (hd_zero h.inv)
  simpa using this
theorem PM.step {o : Int} {s' : S} (h : PM W n K p g cap all nv s) (hs : St 0 o s s') (hn : s'.ns = s.ns) (f : Fr (· = p) W W') (hc : W'.heap[p]? = some (.cells (pmC all g cap nv s') 48 (0, 0))) : PM W' n K p g cap all nv s' := by
  obtain ⟨i1, i2, i3, i4⟩ := hs n h.x.inv
  have hx := h.x.fr f h.tp h.nvp
  exact ⟨hc, ⟨hx.toks, by rw [hn]; exact hx.nds, i2.suf.trans hx.suf, i1, hx.capl, by have := hx.small; exact ⟨by omega, this.2⟩, hx.kb⟩⟩
theorem pmC_adv (h : PX W n K g cap all nv s) : pmC all g cap nv s.adv = #[.slice (some ⟨g, pos all s * 3 + 3, none⟩) (s.ts.length - 1) (cap - pos all s - 1), nv, .int .i64 s.opn, .int .i64 s.at_, .int .i64 s.err] := by
  obtain ⟨l0, l1, l2, l3, l4, l5, l6⟩ := h.facts
  have e1 : s.adv.ts.length = s.ts.length - 1 := List.length_tail
  have e2 : pos all s.adv = pos all s + 1 := by unfold pos at l6 ⊢; rw [e1]; omega
  unfold pmC
  rw [e1, e2, Nat.add_mul, Nat.one_mul, Nat.sub_add_eq]
  rfl
theorem next_raw {o len cp : Nat} (t : Tk) (c0 : W.cell? ⟨p, 0, none⟩ = some (.slice (some ⟨g, o, none⟩) len cp)) (l0 : 0 < len) (l4 : len ≤ 5000)
    (k0 : W.cell? ⟨g, o, none⟩ = some (.int .i64 t.kind)) (k1 : W.cell? ⟨g, o + 1, none⟩ = some (.string (st t.text))) (k2 : W.cell? ⟨g, o + 2, none⟩ = some (.int .i64 t.at_)) :
    Calls Try.prog 25 #[.pointer (some ⟨p, 0, none⟩)] W fun e w' => e = .returned (.agg #[.int .i64 t.kind, .string (st t.text), .int .i64 t.at_]) ∧ Fr (fun _ => False) W w' := by
  have hpos : p < W.heap.size := cell_lt c0
  have hgs : g < W.heap.size := cell_lt k0
  have HF := Lib.hid ((Fr.refl (fun _ => False) W).alloc (.cells #[.int .i64 t.kind, .string (st t.text), .int .i64 t.at_] 40))
  go_enter Try.func25, Try.ntmps25
  go_wp2
  exact bodyPost_ret (resN3 Try.f25 40 rfl agg40 (heap_alloc_new _ _) _ rfl) rfl ⟨rfl, HF.out⟩
theorem next_any (h : PM W n K p g cap all nv s) :
    Calls Try.prog 25 #[.pointer (some ⟨p, 0, none⟩)] W fun e w' => e = .returned (.agg #[.int .i64 s.hd.kind, .string (st s.hd.text), .int .i64 s.hd.at_]) ∧ Fr (fun _ => False) W w' := by
  obtain ⟨c0, c1, c2, c3, c4, fz⟩ := h.cells
  obtain ⟨k0, k1, k2⟩ := h.x.tok0
  obtain ⟨l0, l1, l2, l3, l4, l5, l6⟩ := h.x.facts
  exact next_raw s.hd c0 l0 l4 k0 k1 k2
theorem read_any (h : PM W n K p g cap all nv s) (hk : ¬ s.hd.text = []) :
    Calls Try.prog 49 #[.pointer (some ⟨p, 0, none⟩)] W fun e w' => e = .returned (.agg #[.int .i64 s.hd.kind, .string (st s.hd.text), .int .i64 s.hd.at_]) ∧ PM w' n K p g cap all nv s.adv ∧ Fr (· = p) W w' := by
  obtain ⟨c0, c1, c2, c3, c4, fz⟩ := h.cells
  have f0 := fz 0
  obtain ⟨k0, k1, k2⟩ := h.x.tok0
  obtain ⟨l0, l1, l2, l3, l4, l5, l6⟩ := h.x.facts
  have hpos : p < W.heap.size := heap_lt h.cell
  have hgs : g < W.heap.size := cell_lt k0
  have HE := Lib.hid (pmC_adv h.x)
  have HST := Lib.hid (adv_st hk)
  have H := Lib.hid h
  have hlen : 2 ≤ s.ts.length := by
    rcases h.x.inv.next with ⟨_, h1, _⟩ | ⟨_, u, r, h1, _⟩
    · exact absurd h1 hk
    · rw [h1]; simp
  have hne : ¬ (cap - pos all s = 1) := by omega
  have HC := Lib.hid (show (W.setCell ⟨p, 0, none⟩ (.slice (some ⟨g, pos all s * 3 + 3, none⟩) (s.ts.length - 1) (cap - pos all s - 1))).heap[p]? = some (.cells (pmC all g cap nv s.adv) 48 (0, 0)) by rw [HE.out]; exact heap_set h.cell 0 _)
  have HF := Lib.hid ((((Fr.refl (· = p) W).setCell (p := ⟨p, 0, none⟩) (.inl rfl) (.slice (some ⟨g, pos all s * 3 + 3, none⟩) (s.ts.length - 1) (cap - pos all s - 1)))))
  unfold maxLen at l3
  clear h fz HE
  go_enter Try.func49, Try.ntmps49
  go_wp2
  refine bodyPost_ret (resN3 Try.f49 40 rfl agg40 (heap_alloc_one _ _ _ (set_size _ _ _)) _ rfl) rfl ⟨rfl, H.out.step (o := 0) (HST.out.le (by decide)) rfl ((HF.out.alloc _).alloc _) ?_, (HF.out.alloc _).alloc _⟩
  exact (((((Fr.refl (fun _ => False) (W.setCell ⟨p, 0, none⟩ (.slice (some ⟨g, pos all s * 3 + 3, none⟩) (s.ts.length - 1) (cap - pos all s - 1)))).alloc _).alloc _).block p (heap_lt HC.out) id).trans HC.out)
theorem pmC_fail (h : PX W n K g cap all nv s) (h0 : s.err = 0) : pmC all g cap nv s.fail = #[.slice (some ⟨g, pos all s * 3 + (s.ts.length - 1) * 3, none⟩) 1 (cap - pos all s - (s.ts.length - 1)), nv, .int .i64 s.opn, .int .i64 s.hd.at_, .int .i64 (if s.hd.kind = 4 then 23 else 17)] := by
  obtain ⟨l0, l1, l2, l3, l4, l5, l6⟩ := h.facts
  have e0 : s.fail = { s with ts := lastT s.ts, at_ := s.hd.at_, err := if s.hd.kind = 4 then 23 else 17 } := by unfold S.fail; rw [if_pos h0]
  have e1 : s.fail.ts.length = 1 := by rw [e0]; exact h.inv.good.last.2
  have e2 : pos all s.fail = pos all s + (s.ts.length - 1) := by unfold pos at l6 ⊢; rw [e1]; omega
  unfold pmC
  rw [e1, e2, Nat.add_mul, Nat.sub_add_eq, e0]
theorem pfail_err (h : PM W n K p g cap all nv s) (h0 : ¬ s.err = 0) :
    Calls Try.prog 26 #[.pointer (some ⟨p, 0, none⟩)] W fun e w' => e = .returned (.tuple #[]) ∧ PM w' n K p g cap all nv s.fail ∧ Fr (· = p) W w' := by
  obtain ⟨c0, c1, c2, c3, c4, fz⟩ := h.cells
  have hz : (s.err != 0) = true := by rw [bne_iff_ne]; exact h0
  have e0 : s.fail = s := by unfold S.fail; rw [if_neg h0]
  rw [e0]
  have H := Lib.hid h
  clear h fz
  go_enter Try.func26, Try.ntmps26
  go_wp2
  refine bodyPost_ret (results_none rfl _ _ _) rfl ?_
  exact ⟨rfl, H.out, Fr.refl _ _⟩
set_option maxHeartbeats 2000000 in
theorem pfail_ok (h : PM W n K p g cap all nv s) (h0 : s.err = 0) :
    Calls Try.prog 26 #[.pointer (some ⟨p, 0, none⟩)] W fun e w' => e = .returned (.tuple #[]) ∧ PM w' n K p g cap all nv s.fail ∧ Fr (· = p) W w' := by
  obtain ⟨c0, c1, c2, c3, c4, fz⟩ := h.cells
  have f0 := fz 0
  have f3 := fz 3
  have f4 := fz 4
  obtain ⟨k0, k1, k2⟩ := h.x.tok0
  obtain ⟨l0, l1, l2, l3, l4, l5, l6⟩ := h.x.facts
  have hpos : p < W.heap.size := heap_lt h.cell
  have hgs : g < W.heap.size := cell_lt k0
  have HN := Lib.hid (next_any h)
  have HE := Lib.hid (pmC_fail h.x h0)
  have HST := Lib.hid (fail_st s)
  have HNS := Lib.hid (fail_ns s)
  have hgp : ¬ g = p := fun e => by
    obtain ⟨cs, hh⟩ : ∃ cs, W.heap[g]? = some (.cells cs 40 (0, 0)) := by
      have ht : W.ownsRow 0 40 3 (.slice (some ⟨g, 0, none⟩) all.length cap) all.length (tkC all) := h.x.toks
      rcases ht.2 with ⟨h1, _⟩ | ⟨g', cap', cur, h1, _, h2, _⟩
      · cases h1
      · cases h1; exact ⟨_, h2⟩
    subst e
    rw [h.cell] at hh
    cases hh
  have H := Lib.hid h
  rw [h0] at c4
  unfold maxLen at l3
  clear h fz
  have H1 := Lib.hid (fun (w1 : World) (hF : Fr (fun _ => False) W w1) => (H.out.fr hF).cell)
  have H2 := Lib.hid (fun (w1 : World) (hF : Fr (fun _ => False) W w1) (v : Value) => show ((w1.setCell ⟨p, 3, none⟩ (.int .i64 s.hd.at_)).setCell ⟨p, 4, none⟩ v).heap[p]? = some (.cells #[.slice (some ⟨g, pos all s * 3, none⟩) s.ts.length (cap - pos all s), nv, .int .i64 s.opn, .int .i64 s.hd.at_, v] 48 (0, 0)) from heap_set (heap_set (H.out.fr hF).cell 3 _) 4 _)
  have H3 := Lib.hid (fun (w1 : World) (hF : Fr (fun _ => False) W w1) (v : Value) => show Fr (· = p) W ((w1.setCell ⟨p, 3, none⟩ (.int .i64 s.hd.at_)).setCell ⟨p, 4, none⟩ v) from Fr.set (Fr.set (hF.mono (fun _ _ h => h.elim)) 3 _) 4 _)
  have HQ := Lib.hid (⟨k0, k1, k2⟩ : _ ∧ _ ∧ _)
  by_cases hk : s.hd.kind = 4
  · rw [if_pos hk] at HE
    go_enter Try.func26, Try.ntmps26
    go_wp2_with (first | (refine wpList_field rfl _ _ rfl _ _ _ rfl _ rfl ?_) | (go_at_call 25; (with_reducible refine HN.out.mono ?_); rintro e w1 ⟨rfl, hF1⟩; have d3 := hF1.cell c3 id; have d4 := hF1.cell c4 id; have fz := (H.out.fr hF1).cells.2.2.2.2.2; have f3 := fz 3; have f4 := fz 4; have HF1 := Lib.hid hF1; clear hF1 c0 c1 c2 c3 c4 k0 k1 k2 fz))
    have hh2 := H2.out _ HF1.out (.int .i64 17)
    have hf2 := H3.out _ HF1.out (.int .i64 17)
    refine (next_raw (g := g) (o := pos all s * 3) (len := s.ts.length) (cp := cap - pos all s) s.hd (by rw [Lib.cell_of_heap hh2]; rfl) l0 l4 (hf2.cell HQ.out.1 hgp) (hf2.cell HQ.out.2.1 hgp) (hf2.cell HQ.out.2.2 hgp)).mono ?_
    rintro e w2 ⟨rfl, hF2⟩
    have hh3 := (hF2.block p (heap_lt hh2) id).trans hh2
    have hf3 := hf2.trans (hF2.mono (fun _ _ h => h.elim))
    clear hh2 hf2 d3 d4 f3 f4
    obtain ⟨c0, c1, c2, c3, c4, f0, f1, f2, f3, f4⟩ := cells5 hh3
    have HH3 := Lib.hid hh3
    have HF3 := Lib.hid hf3
    clear hh3 hf3 c1 c2 f1 f2 hF2
    go_upto_region 4 with (first | (refine wpList_field rfl _ _ rfl _ _ _ rfl _ rfl ?_))
    go_region
    go_wp2
    refine bodyPost_end (results_none rfl _ _ _) rfl ?_
    have hlast : s.ts.length - (s.ts.length - 1) = 1 := by omega
    refine ⟨rfl, H.out.step HST.out HNS.out ((HF3.out.set 4 _).set 0 _).drew ?_, ((HF3.out.set 4 _).set 0 _).drew⟩
    rw [hlast, HE.out]
    exact heap_set (heap_set HH3.out 4 _) 0 _
  · rw [if_neg hk] at HE
    have hk' : (s.hd.kind == 4) = false := by rw [beq_eq_false_iff_ne]; exact hk
    go_enter Try.func26, Try.ntmps26
    go_wp2_with (first | (refine wpList_field rfl _ _ rfl _ _ _ rfl _ rfl ?_) | (go_at_call 25; (with_reducible refine HN.out.mono ?_); rintro e w1 ⟨rfl, hF1⟩; have d3 := hF1.cell c3 id; have d4 := hF1.cell c4 id; have fz := (H.out.fr hF1).cells.2.2.2.2.2; have f3 := fz 3; have f4 := fz 4; have HF1 := Lib.hid hF1; clear hF1 c0 c1 c2 c3 c4 k0 k1 k2 fz))
    have hh2 := H2.out _ HF1.out (.int .i64 17)
    have hf2 := H3.out _ HF1.out (.int .i64 17)
    refine (next_raw (g := g) (o := pos all s * 3) (len := s.ts.length) (cp := cap - pos all s) s.hd (by rw [Lib.cell_of_heap hh2]; rfl) l0 l4 (hf2.cell HQ.out.1 hgp) (hf2.cell HQ.out.2.1 hgp) (hf2.cell HQ.out.2.2 hgp)).mono ?_
    rintro e w2 ⟨rfl, hF2⟩
    have hh3 := (hF2.block p (heap_lt hh2) id).trans hh2
    have hf3 := hf2.trans (hF2.mono (fun _ _ h => h.elim))
    clear hh2 hf2 d3 d4 f3 f4
    obtain ⟨c0, c1, c2, c3, c4, f0, f1, f2, f3, f4⟩ := cells5 hh3
    have HH3 := Lib.hid hh3
    have HF3 := Lib.hid hf3
    clear hh3 hf3 c1 c2 f1 f2 hF2
    go_upto_region 4 with (first | (refine wpList_field rfl _ _ rfl _ _ _ rfl _ rfl ?_))
    go_region
    go_wp2
    refine bodyPost_end (results_none rfl _ _ _) rfl ?_
    have hlast : s.ts.length - (s.ts.length - 1) = 1 := by omega
    refine ⟨rfl, H.out.step HST.out HNS.out (HF3.out.set 0 _).drew ?_, (HF3.out.set 0 _).drew⟩
    rw [hlast, HE.out]
    exact heap_set HH3.out 0 _
theorem fail_any (h : PM W n K p g cap all nv s) :
    Calls Try.prog 26 #[.pointer (some ⟨p, 0, none⟩)] W fun e w' => e = .returned (.tuple #[]) ∧ PM w' n K p g cap all nv s.fail ∧ Fr (· = p) W w' := by
  by_cases h0 : s.err = 0
  · exact pfail_ok h h0
  · exact pfail_err h h0
theorem st_is {s : S} {t : Bs} {x : ByteArray} (hx : x = st t) {b : Bool} (hb : s.is t = b) : (((st s.hd.text).toList == x.toList) : Bool) = b ∧ (((st s.hd.text).toList != x.toList) : Bool) = !b := by
  subst hx
  rw [st_toList, st_toList]
  exact ⟨hb, by rw [bne]; exact congrArg _ hb⟩
theorem takes_any (h : PM W n K p g cap all nv s) (x : ByteArray) (t : Bs) (hx : x = st t) (ht : ¬ t = []) :
    Calls Try.prog 37 #[.pointer (some ⟨p, 0, none⟩), .string x] W fun e w' => e = .returned (.bool (s.is t)) ∧ PM w' n K p g cap all nv (s.may t) ∧ Fr (· = p) W w' := by
  have HN := Lib.hid (next_any h)
  have H := Lib.hid h
  cases hb : s.is t with
  | true =>
    obtain ⟨g1, g2⟩ := st_is hx hb
    have HR := Lib.hid (fun (w : World) (h : PM w n K p g cap all nv s) => read_any h (is_ne ht hb))
    have HM := Lib.hid (show s.may t = s.adv by unfold S.may; rw [if_pos hb])
    clear h hb hx
    go_enter Try.func37, Try.ntmps37
    go_wp2_with (first | (refine wpList_field rfl _ _ rfl _ _ _ rfl _ rfl ?_) | (go_at_call 25; (with_reducible refine HN.out.mono ?_); rintro e w1 ⟨rfl, hF1⟩; have HF1 := Lib.hid hF1; have H1 := Lib.hid (H.out.fr hF1); clear hF1) | (go_at_call 49; (with_reducible refine (HR.out _ H1.out).mono ?_); rintro e w2 ⟨rfl, hP, hF2⟩; have HP2 := Lib.hid hP; have HF2 := Lib.hid ((HF1.out.mono (fun _ _ h => h.elim)).trans hF2); clear hP hF2))
    go_ret
    exact ⟨rfl, by rw [HM.out]; exact HP2.out, HF2.out⟩
  | false =>
    obtain ⟨g1, g2⟩ := st_is hx hb
    have HM := Lib.hid (show s.may t = s by unfold S.may; rw [if_neg (by rw [hb]; decide)])
    clear h hb hx
    go_enter Try.func37, Try.ntmps37
    go_wp2_with (first | (refine wpList_field rfl _ _ rfl _ _ _ rfl _ rfl ?_) | (go_at_call 25; (with_reducible refine HN.out.mono ?_); rintro e w1 ⟨rfl, hF1⟩; have HF1 := Lib.hid hF1; have H1 := Lib.hid (H.out.fr hF1); clear hF1))
    go_ret
    exact ⟨rfl, by rw [HM.out]; exact H1.out, HF1.out.mono (fun _ _ h => h.elim)⟩
theorem expect_any (h : PM W n K p g cap all nv s) (x : ByteArray) (t : Bs) (hx : x = st t) (ht : ¬ t = []) :
    Calls Try.prog 68 #[.pointer (some ⟨p, 0, none⟩), .string x] W fun e w' => e = .returned (.tuple #[]) ∧ PM w' n K p g cap all nv (s.need t) ∧ Fr (· = p) W w' := by
  have HT := Lib.hid (takes_any h x t hx ht)
  cases hb : s.is t with
  | true =>
    have HM := Lib.hid (show s.need t = s.may t by unfold S.may S.need; rw [if_pos hb, if_pos hb])
    rw [hb] at HT
    clear h hb hx
    go_enter Try.func68, Try.ntmps68
    go_wp2_with (first | (go_at_call 37; (with_reducible refine HT.out.mono ?_); rintro e w1 ⟨rfl, hP, hF1⟩; have HP1 := Lib.hid hP; have HF1 := Lib.hid hF1; clear hP hF1))
    refine bodyPost_end (results_none rfl _ _ _) rfl ?_
    exact ⟨rfl, by rw [HM.out]; exact HP1.out, HF1.out⟩
  | false =>
    have HM := Lib.hid (show s.need t = (s.may t).fail by unfold S.may S.need; rw [if_neg (by rw [hb]; decide), if_neg (by rw [hb]; decide)])
    have HL := Lib.hid (fun (w : World) (h : PM w n K p g cap all nv (s.may t)) => fail_any h)
    rw [hb] at HT
    clear h hb hx
    go_enter Try.func68, Try.ntmps68
    go_wp2_with (first | (go_at_call 37; (with_reducible refine HT.out.mono ?_); rintro e w1 ⟨rfl, hP, hF1⟩; have HP1 := Lib.hid hP; have HF1 := Lib.hid hF1; clear hP hF1) | (go_at_call 26; (with_reducible refine (HL.out _ HP1.out).mono ?_); rintro e w2 ⟨rfl, hP, hF2⟩; have HP2 := Lib.hid hP; have HF2 := Lib.hid (HF1.out.trans hF2); clear hP hF2))
    refine bodyPost_end (results_none rfl _ _ _) rfl ?_
    exact ⟨rfl, by rw [HM.out]; exact HP2.out, HF2.out⟩
theorem word_any' (h : PM W n K p g cap all nv s) :
    Calls Try.prog 78 #[.pointer (some ⟨p, 0, none⟩)] W fun e w' => e = .returned (.string (st s.word.1)) ∧ PM w' n K p g cap all nv s.word.2 ∧ Fr (· = p) W w' := by
  have HN := Lib.hid (next_any h)
  have H := Lib.hid h
  by_cases hk : s.hd.kind = 1
  · have HM := Lib.hid (show s.word = (s.hd.text, s.adv) by unfold S.word; rw [if_pos hk])
    have HR := Lib.hid (fun (w : World) (h : PM w n K p g cap all nv s) => read_any h (by
      rcases h.x.inv.next with ⟨h1, _⟩ | ⟨_, u, r, _, hg, _⟩
      · rw [h1] at hk; cases hk
      · exact hg.1))
    have hz : (s.hd.kind != 1) = false := by rw [hk]; decide
    clear h hk
    go_enter Try.func78, Try.ntmps78
    go_wp2_with (first | (refine wpList_field rfl _ _ rfl _ _ _ rfl _ rfl ?_) | (go_at_call 25; (with_reducible refine HN.out.mono ?_); rintro e w1 ⟨rfl, hF1⟩; have HF1 := Lib.hid hF1; have H1 := Lib.hid (H.out.fr hF1); clear hF1) | (go_at_call 49; (with_reducible refine (HR.out _ H1.out).mono ?_); rintro e w2 ⟨rfl, hP, hF2⟩; have HP2 := Lib.hid hP; have HF2 := Lib.hid ((HF1.out.mono (fun _ _ h => h.elim)).trans hF2); clear hP hF2))
    go_ret
    rw [HM.out]
    exact ⟨rfl, HP2.out, HF2.out⟩
  · have HM := Lib.hid (show s.word = ([], s.fail) by unfold S.word; rw [if_neg hk])
    have HL := Lib.hid (fun (w : World) (h : PM w n K p g cap all nv s) => fail_any h)
    have hz : (s.hd.kind != 1) = true := by rw [bne_iff_ne]; exact hk
    clear h hk
    go_enter Try.func78, Try.ntmps78
    go_wp2_with (first | (refine wpList_field rfl _ _ rfl _ _ _ rfl _ rfl ?_) | (go_at_call 25; (with_reducible refine HN.out.mono ?_); rintro e w1 ⟨rfl, hF1⟩; have HF1 := Lib.hid hF1; have H1 := Lib.hid (H.out.fr hF1); clear hF1) | (go_at_call 26; (with_reducible refine (HL.out _ H1.out).mono ?_); rintro e w2 ⟨rfl, hP, hF2⟩; have HP2 := Lib.hid hP; have HF2 := Lib.hid ((HF1.out.mono (fun _ _ h => h.elim)).trans hF2); clear hP hF2))
    go_ret
    rw [HM.out]
    exact ⟨rfl, HP2.out, HF2.out⟩
theorem name_any (h : PM W n K p g cap all nv s) :
    Calls Try.prog 75 #[.pointer (some ⟨p, 0, none⟩)] W fun e w' => e = .returned (.string (st s.name.1)) ∧ PM w' n K p g cap all nv s.name.2 ∧ Fr (· = p) W w' := by
  have HN := Lib.hid (next_any h)
  have H := Lib.hid h
  have HI := Lib.hid (fun w => isName_any s.hd.text h.x.inv.hd_len w)
  cases hk : isNm s.hd.text with
  | true =>
    have HM := Lib.hid (show s.name = (s.hd.text, s.adv) by unfold S.name; rw [if_pos hk])
    have HR := Lib.hid (fun (w : World) (h : PM w n K p g cap all nv s) => read_any h (isNm_ne hk))
    rw [hk] at HI
    clear h hk
    go_enter Try.func75, Try.ntmps75
    go_wp2_with (first | (refine wpList_field rfl _ _ rfl _ _ _ rfl _ rfl ?_) | (go_at_call 74; (with_reducible refine (HI.out _).mono ?_); rintro e w9 ⟨rfl, rfl⟩) | (go_at_call 25; (with_reducible refine HN.out.mono ?_); rintro e w1 ⟨rfl, hF1⟩; have HF1 := Lib.hid hF1; have H1 := Lib.hid (H.out.fr hF1); clear hF1) | (go_at_call 49; (with_reducible refine (HR.out _ H1.out).mono ?_); rintro e w2 ⟨rfl, hP, hF2⟩; have HP2 := Lib.hid hP; have HF2 := Lib.hid ((HF1.out.mono (fun _ _ h => h.elim)).trans hF2); clear hP hF2))
    go_ret
    rw [HM.out]
    exact ⟨rfl, HP2.out, HF2.out⟩
  | false =>
    have HM := Lib.hid (show s.name = ([], s.fail) by unfold S.name; rw [if_neg (by rw [hk]; decide)])
    have HL := Lib.hid (fun (w : World) (h : PM w n K p g cap all nv s) => fail_any h)
    rw [hk] at HI
    clear h hk
    go_enter Try.func75, Try.ntmps75
    go_wp2_with (first | (refine wpList_field rfl _ _ rfl _ _ _ rfl _ rfl ?_) | (go_at_call 74; (with_reducible refine (HI.out _).mono ?_); rintro e w9 ⟨rfl, rfl⟩) | (go_at_call 25; (with_reducible refine HN.out.mono ?_); rintro e w1 ⟨rfl, hF1⟩; have HF1 := Lib.hid hF1; have H1 := Lib.hid (H.out.fr hF1); clear hF1) | (go_at_call 26; (with_reducible refine (HL.out _ H1.out).mono ?_); rintro e w2 ⟨rfl, hP, hF2⟩; have HP2 := Lib.hid hP; have HF2 := Lib.hid ((HF1.out.mono (fun _ _ h => h.elim)).trans hF2); clear hP hF2))
    go_ret
    rw [HM.out]
    exact ⟨rfl, HP2.out, HF2.out⟩
end
end Go.Proofs.Ytoahgblgchmclaa
