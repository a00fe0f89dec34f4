/- A node is listed. -/
import Derived.Test.YtoahgblgchmclaaPH
namespace Go.Proofs.Ytoahgblgchmclaa
open Go.RowKit
set_option linter.unusedVariables false
set_option linter.unusedSimpArgs false
theorem info_node : ∃ i z, Try.prog.info? 32 = some i ∧ i.zero = some z ∧ i.size = 8 ∧ i.bytes = 152 ∧ z.cells.size = 8 := by
  obtain ⟨i, hi⟩ : ∃ i, Try.prog.info? 32 = some i := by
    cases h : Try.prog.info? 32 with
    | none => have : (Try.prog.info? 32).isSome = true := by kernel_rfl
              rw [h] at this; cases this
    | some i => exact ⟨i, rfl⟩
  have h2 : (Try.prog.info? 32).map (fun i => (i.zero, i.size, i.bytes)) = some (some (.agg #[.int .i64 0, .string .empty, .bool false, .slice none 0 0, .slice none 0 0, .slice none 0 0, .slice none 0 0, .slice none 0 0]), 8, 152) := by kernel_rfl
  rw [hi] at h2
  simp only [Option.map_some, Option.some.injEq, Prod.mk.injEq] at h2
  exact ⟨i, _, hi, h2.1, h2.2.1, h2.2.2, rfl⟩
theorem new8 (w : World) (cs : List Value) : ∀ j u, cs[j]? = some u → (w.alloc (.cells cs.toArray 32)).cell? ((⟨w.heap.size, 0, none⟩ : Addr).add j) = some u := by
  intro j u hj
  rw [Addr.add_lit, Nat.zero_add, cell_of_row _ w.heap.size j _ _ (0, 0) (heap_alloc_new w _)]
  simpa using hj
theorem one_slice {W : World} {B e z n : Nat} {v : Value} {xs : List Value} (h : W.ownsRow B e z v n xs) : v.oneCell' = true := by
  obtain ⟨ao, cap, rfl, _⟩ := ownz_form h
  rfl
section
variable {W W' : World} {n p g cap : Nat} {K : Nat → Prop} {all : List Tk} {nv : Value} {s : S}
theorem ndC_len (m : Nd) (a b c d e : Value) : (ndC m a b c d e).length = 8 := rfl
theorem add_end {K' : Nat → Prop} {w1 w3 : World} {g2 cap2 : Nat} {cs : List (List Value)} {m : Nd} {sv wv rv pv kv : Value} (h : PM W n K p g cap all nv s) (hkk : ∀ k, K k → K' k) (hkb : ∀ k, K' k → k < W.heap.size) (h1 : Strs W K' sv m.sets) (h2 : Strs W K' wv m.words) (h3 : Rds W K' rv m.redirs) (h4 : Pats W K' pv m.pats) (h5 : Ints W K' kv m.kids) (hp : pot s + 1 ≤ 100000)
    (f1 : Fr (fun _ => False) W w1) (hs : w1.heap.size = W.heap.size + 1) (hgr : Fr (fun k => nv.ownBlock = some k) w1 w3)
    (hown : w3.ownsRow 0 32 8 (.slice (some ⟨g2, 0, none⟩) (s.ns.length + 1) cap2) (s.ns.length + 1) (cs.flatten ++ ndC m sv wv rv pv kv)) (hat : nv.ownBlock = some g2 ∨ g2 = w1.heap.size + 1)
    (hcl : cs.length = s.ns.length) (hall : ∀ (i : Nat) (c : List Value) (n : Nd), cs[i]? = some c → s.ns[i]? = some n → NdV W K c n) :
    PM (w3.setCell ⟨p, 1, none⟩ (.slice (some ⟨g2, 0, none⟩) (s.ns.length + 1) cap2)) n K' p g cap all (.slice (some ⟨g2, 0, none⟩) (s.ns.length + 1) cap2) (s.add m).2 ∧
    GoA p nv (.slice (some ⟨g2, 0, none⟩) (s.ns.length + 1) cap2) W (w3.setCell ⟨p, 1, none⟩ (.slice (some ⟨g2, 0, none⟩) (s.ns.length + 1) cap2)) := by
  have hm1 := h.fr f1
  have hp3 : w3.heap[p]? = some (.cells (pmC all g cap nv s) 48 (0, 0)) := (hgr.block p (heap_lt hm1.cell) (fun e => hm1.nvp p e rfl)).trans hm1.cell
  have f3 : Fr (fun k => k = p ∨ nv.ownBlock = some k) W w3 := (f1.mono fun _ _ e => e.elim).trans (hgr.mono fun k _ e => .inr e)
  have f5 : Fr (fun k => k = p ∨ nv.ownBlock = some k) W (w3.setCell ⟨p, 1, none⟩ (.slice (some ⟨g2, 0, none⟩) (s.ns.length + 1) cap2)) := f3.setCell (p := ⟨p, 1, none⟩) (.inl (.inl rfl)) _
  have hg2 : ¬ g2 = p := fun e => by
    subst e
    obtain ⟨_, _, cur, fz, hc⟩ := ownz_type hown (k := g2) rfl
    rw [hp3] at hc
    cases hc
  obtain ⟨i1, i2, i3, i4⟩ := add_st s m n h.x.inv
  refine ⟨⟨heap_set hp3 1 _, ⟨Tp.own h.x.toks f5 h.tpn ⟨by decide, by decide⟩, ?_, i2.suf.trans h.x.suf, i1, h.x.capl, ⟨by omega, h.x.small.2⟩, fun k e => Nat.lt_of_lt_of_le (hkb k e) f5.size⟩⟩, ⟨f5, fun k hk => ?_⟩⟩
  · refine ⟨cs ++ [ndC m sv wv rv pv kv], ?_, by show _ = (s.ns ++ [m]).length; rw [List.length_append, List.length_append, hcl]; rfl, fun i c q hc hq => ?_⟩
    · have e : (cs ++ [ndC m sv wv rv pv kv]).flatten = cs.flatten ++ ndC m sv wv rv pv kv := by simp
      have e2 : (s.add m).2.ns.length = s.ns.length + 1 := by show (s.ns ++ [m]).length = _; simp
      rw [e, e2]
      exact ownz_fr hown (Fr.one _ _ _ _) (fun k hk e => by
        have hk' : some g2 = some k := hk
        cases hk'
        exact hg2 e)
    · have hq' : (s.ns ++ [m])[i]? = some q := hq
      by_cases hi : i < s.ns.length
      · rw [List.getElem?_append_left (by omega)] at hc hq'
        exact ((hall i c q hc hq').fr f5 h.tpn).mono hkk
      · rw [List.getElem?_append_right (by omega)] at hc hq'
        obtain rfl : i = s.ns.length := by
          have := (List.getElem?_eq_some_iff.1 hq').1
          simp at this
          omega
        rw [hcl, Nat.sub_self] at hc
        rw [Nat.sub_self] at hq'
        cases hc
        cases hq'
        exact ⟨sv, wv, rv, pv, kv, rfl, h1.fr f5 h.tpn, h2.fr f5 h.tpn, h3.fr f5 h.tpn, h4.fr f5 h.tpn, h5.fr f5 h.tpn⟩
  · have hk' : some g2 = some k := hk
    cases hk'
    rcases hat with h | h
    · exact .inl h
    · exact .inr (by omega)
set_option maxHeartbeats 4000000 in
theorem add_any {K' : Nat → Prop} (h : PM W n K p g cap all nv s) (m : Nd) {sv wv rv pv kv : Value} (hkk : ∀ k, K k → K' k) (hkb : ∀ k, K' k → k < W.heap.size) (h1 : Strs W K' sv m.sets) (h2 : Strs W K' wv m.words) (h3 : Rds W K' rv m.redirs) (h4 : Pats W K' pv m.pats) (h5 : Ints W K' kv m.kids) (hp : pot s + 1 ≤ 100000) :
    Calls Try.prog 42 #[.pointer (some ⟨p, 0, none⟩), .agg #[.int .i64 m.kind, .string (st m.name), .bool m.inn, sv, wv, rv, pv, kv]] W fun e w' => e = .returned (.int .i64 (s.add m).1) ∧ ∃ nv', PM w' n K' p g cap all nv' (s.add m).2 ∧ GoA p nv nv' W w' := by
  obtain ⟨i0, z0, hi, hz0, hz1, hz2, hz3⟩ := info_node
  obtain ⟨c0, c1, c2, c3, c4, fz⟩ := h.cells
  have f1 := fz 1
  obtain ⟨l0, l1, l2, l3, l4, l5, l6⟩ := h.x.facts
  have hn : s.ns.length + 1 ≤ 100000 := by unfold pot at hp; omega
  have hpos : p < W.heap.size := heap_lt h.cell
  have o1 : ∀ u ∈ ndC m sv wv rv pv kv, u.oneCell' = true := by
    intro u hu
    unfold ndC at hu
    simp only [List.mem_cons, List.mem_nil_iff, or_false] at hu
    obtain ⟨vs, h4', _⟩ := h4
    rcases hu with rfl | rfl | rfl | rfl | rfl | rfl | rfl | rfl
    · rfl
    · rfl
    · rfl
    · exact one_slice h1.1
    · exact one_slice h2.1
    · exact one_slice h3.1
    · exact one_slice h4'
    · exact one_slice h5.1
  have HO1 := Lib.hid o1
  have HKK := Lib.hid hkk
  have HKB := Lib.hid hkb
  obtain ⟨cs, hcs, hcl, hall⟩ := h.x.nds
  have HN := Lib.hid (⟨h1, h2, h3, h4, h5⟩ : _ ∧ _ ∧ _ ∧ _ ∧ _)
  have HALL := Lib.hid hall
  have HCS := Lib.hid hcs
  have HL := Lib.hid hcl
  have H := Lib.hid h
  clear h hkk hkb h1 h2 h3 h4 h5 hall hcs hcl fz o1 c0 c2 c3 c4
  unfold maxLen at l3
  go_enter Try.func42, Try.ntmps42
  go_upto_region 1 with fail
  have HF1 := Lib.hid ((Fr.refl (fun _ => False) W).alloc (.cells #[.int .i64 m.kind, .string (st m.name), .bool m.inn, sv, wv, rv, pv, kv] 32))
  have ht := heap_alloc_new W (.cells #[.int .i64 m.kind, .string (st m.name), .bool m.inn, sv, wv, rv, pv, kv] 32)
  have hs1 : (W.alloc (.cells #[.int .i64 m.kind, .string (st m.name), .bool m.inn, sv, wv, rv, pv, kv] 32)).heap.size = W.heap.size + 1 := by simp
  generalize W.alloc (.cells #[.int .i64 m.kind, .string (st m.name), .bool m.inn, sv, wv, rv, pv, kv] 32) = w1 at *
  generalize hTW : W.heap.size = T at *
  have HTW := Lib.hid hTW
  clear hTW
  obtain ⟨t0, t1, t2, t3, t4, t5, t6, t7⟩ : w1.cell? ⟨T, 0, none⟩ = some (.int .i64 m.kind) ∧ w1.cell? ⟨T, 1, none⟩ = some (.string (st m.name)) ∧ w1.cell? ⟨T, 2, none⟩ = some (.bool m.inn) ∧ w1.cell? ⟨T, 3, none⟩ = some sv ∧ w1.cell? ⟨T, 4, none⟩ = some wv ∧ w1.cell? ⟨T, 5, none⟩ = some rv ∧ w1.cell? ⟨T, 6, none⟩ = some pv ∧ w1.cell? ⟨T, 7, none⟩ = some kv := by
    refine ⟨?_, ?_, ?_, ?_, ?_, ?_, ?_, ?_⟩ <;> rw [Lib.cell_of_heap ht] <;> rfl
  clear ht
  have d1 := HF1.out.cell c1 id
  have g1 := (H.out.fr HF1.out).cells.2.2.2.2.2 1
  have HA := Lib.hid (ownz_fr HCS.out ((HF1.out.drew).alloc (.cells (ndC m sv wv rv pv kv).toArray 32)) (fun _ _ => id))
  have HP1 := Lib.hid (H.out.fr HF1.out)
  have HS1 := Lib.hid hs1
  have hp1 : p < w1.heap.size := by omega
  have ht1 : T < w1.heap.size := by omega
  clear c1 f1 hs1
  go_region_law (first
    | (refine step_append_lies _ (by rfl) _ _ 23 (by rfl) 0 32 i0 z0 8 152 Try.underlying23 hi hz0 hz1 hz2 hz3 (by decide) _ s.ns.length cs.flatten (by rfl) HA.out ⟨w1.heap.size, 0, none⟩ 1 1 (ndC m sv wv rv pv kv) (by rfl) (by rfl) (new8 w1.drew _) HO1.out (by decide) (by unfold maxLen; omega) (by omega) (Nat.zero_le _) (w1.heap.size + 1) (by simp) ?_
       intro g2 cap2 w3 hown hgrow hat hlt
       have hfr : Fr (fun k => nv.ownBlock = some k) w1 w3 := (((Fr.refl (fun k => nv.ownBlock = some k) w1).drew).alloc (.cells (ndC m sv wv rv pv kv).toArray 32)).trans (Fr.grown hgrow)
       have fp := hfr.block p (heap_lt HP1.out.cell) (fun e => HP1.out.nvp p e rfl)
       have e0 := (World.cell?_of_block (a := ⟨p, 1, none⟩) fp).trans d1
       have e1 := (World.frozen?_of_block (a := ⟨p, 1, none⟩) fp).trans g1
       have HOWN := Lib.hid hown
       have HGR := Lib.hid hfr
       have HAT := Lib.hid hat
       clear hown hgrow hat hlt fp hfr))
  all_goals
    have hz := HS1.out
    rw [← HTW.out] at hz
    obtain ⟨hm, hg⟩ := add_end H.out HKK.out (fun k e => by have h1 := HKB.out k e; have h2 := HTW.out; omega) HN.out.1 HN.out.2.1 HN.out.2.2.1 HN.out.2.2.2.1 HN.out.2.2.2.2 hp HF1.out hz HGR.out HOWN.out HAT.out HL.out HALL.out
    clear t0 t1 t2 t3 t4 t5 t6 t7 d1 g1 HA HP1 e0 e1 HOWN HGR HAT HS1 hp1 ht1
    generalize w3.setCell ⟨p, 1, none⟩ (.slice (some ⟨g2, 0, none⟩) (s.ns.length + 1) cap2) = w5 at *
    obtain ⟨-, c1, -, -, -, -⟩ := hm.cells
    have HM := Lib.hid hm
    have HG := Lib.hid hg
    clear hm hg
    go_wp2
    go_ret
    exact ⟨ret_int (by show _ = ((s.ns.length : Nat) : Int); omega), _, HM.out, HG.out⟩
end
end Go.Proofs.Ytoahgblgchmclaa
