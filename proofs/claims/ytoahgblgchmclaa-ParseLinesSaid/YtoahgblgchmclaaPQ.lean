/- A simple command. -/
import Derived.Test.YtoahgblgchmclaaPP
import Derived.Deep.AppendLies
import Derived.WalkMore
namespace Go.Proofs.Ytoahgblgchmclaa
open Go.RowKit
set_option linter.unusedVariables false
set_option linter.unusedSimpArgs false
section
variable {w w1 : World} {ops : Array Oper} {o : Oper} {a : Act} {Kk : Act → World → Prop} {Q : Exit → Act → World → Prop} {E : Prop} {K1 : Nat → Prop} {v : Value}
theorem wp_str_step (hgd : o.guard = none) (s x : Operand) (ho : o.op = .call { callee := .builtin .append, args := #[s, x], argTypes := #[28, 28] }) (l : List Bs) (t : Bs) (hs : a.eval s = v)
    (hw : w1 = w.alloc (.cells #[.string (st t)] 9)) (hx : a.eval x = .slice (some ⟨w.heap.size, 0, none⟩) 1 1) (h : Strs w K1 v l) (hl : l.length ≤ 100000)
    (k : ∀ g' cap w', Strs w' (own1 (.slice (some ⟨g', 0, none⟩) (l.length + 1) cap)) (.slice (some ⟨g', 0, none⟩) (l.length + 1) cap) (l ++ [t]) → (v.ownBlock = some g' ∨ g' = w.heap.size + 1) → Fr (own1 v) w w' → Kk (a.put o.dst (.slice (some ⟨g', 0, none⟩) (l.length + 1) cap)) w') :
    if Region.wanted o (yielded ops a.tmps) = true then Oper.wp Try.prog o a w1 Kk Q else E := by
  obtain ⟨i, hi, hz0, hz1, hz2⟩ := info_str
  subst hw
  have hrow : (w.alloc (.cells #[.string (st t)] 9)).ownsRow 0 9 1 v l.length (l.map strV) := ownz_fr h.1 ((Fr.refl (fun _ => False) w).alloc _) (fun _ _ => id)
  refine step_append_lies _ hgd s x 28 ho 0 9 i _ 1 16 Try.underlying28 hi hz0 hz1 hz2 rfl (by decide) v l.length (l.map strV) hs hrow ⟨w.heap.size, 0, none⟩ 1 1 [.string (st t)] hx rfl (newT w [.string (st t)] 9) (by intro u hu; simp at hu; subst hu; rfl) (by decide) (by unfold maxLen; omega) (by omega) (Nat.zero_le _) (w.heap.size + 1) (by simp) ?_
  intro g' cap w' hown hgrow hat hlt
  refine k g' cap w' ⟨?_, fun k e => e⟩ hat (((Fr.refl _ w).alloc _).trans (Fr.grown hgrow))
  have e : (l ++ [t]).length = l.length + 1 := by simp
  rw [e, List.map_append]
  exact hown
theorem wp_rd_step (hgd : o.guard = none) (s x : Operand) (ho : o.op = .call { callee := .builtin .append, args := #[s, x], argTypes := #[29, 29] }) (l : List Rd) (t : Rd) (hs : a.eval s = v)
    (hw : w1 = w.alloc (.cells #[.int .i64 t.fd, .string (st t.op), .string (st t.word)] 43)) (hx : a.eval x = .slice (some ⟨w.heap.size, 0, none⟩) 1 1) (h : Rds w K1 v l) (hl : l.length ≤ 100000)
    (k : ∀ g' cap w', Rds w' (own1 (.slice (some ⟨g', 0, none⟩) (l.length + 1) cap)) (.slice (some ⟨g', 0, none⟩) (l.length + 1) cap) (l ++ [t]) → (v.ownBlock = some g' ∨ g' = w.heap.size + 1) → Fr (own1 v) w w' → Kk (a.put o.dst (.slice (some ⟨g', 0, none⟩) (l.length + 1) cap)) w') :
    if Region.wanted o (yielded ops a.tmps) = true then Oper.wp Try.prog o a w1 Kk Q else E := by
  obtain ⟨i, hi, hz0, hz1, hz2⟩ := info_rd
  subst hw
  have hrow : (w.alloc (.cells #[.int .i64 t.fd, .string (st t.op), .string (st t.word)] 43)).ownsRow 0 43 3 v l.length (l.flatMap rdC) := ownz_fr h.1 ((Fr.refl (fun _ => False) w).alloc _) (fun _ _ => id)
  refine step_append_lies _ hgd s x 29 ho 0 43 i _ 3 40 Try.underlying29 hi hz0 hz1 hz2 rfl (by decide) v l.length (l.flatMap rdC) hs hrow ⟨w.heap.size, 0, none⟩ 1 1 (rdC t) hx rfl (newT w (rdC t) 43) (by intro u hu; unfold rdC at hu; simp at hu; rcases hu with rfl | rfl | rfl <;> rfl) (by decide) (by unfold maxLen; omega) (by omega) (Nat.zero_le _) (w.heap.size + 1) (by simp) ?_
  intro g' cap w' hown hgrow hat hlt
  refine k g' cap w' ⟨?_, fun k e => e⟩ hat (((Fr.refl _ w).alloc _).trans (Fr.grown hgrow))
  have e : (l ++ [t]).length = l.length + 1 := by simp
  rw [e, List.flatMap_append, List.flatMap_cons, List.flatMap_nil, List.append_nil]
  exact hown
end
/-- an answer of a step that lists nodes. -/
def NodePost (W : World) (n : Nat) (K : Nat → Prop) (p g cap : Nat) (all : List Tk) (nv : Value) (r : Int × S) (e : Ending) (w' : World) : Prop :=
  e = .returned (.int .i64 r.1) ∧ ∃ nv' K', PM w' n K' p g cap all nv' r.2 ∧ Go p nv nv' K K' W w'
section
variable {W W' w w' : World} {n p g cap : Nat} {K : Nat → Prop} {all : List Tk} {nv : Value} {s t : S}
def spRel (W : World) (n : Nat) (K : Nat → Prop) (p g cap : Nat) (all : List Tk) (nv : Value) (T : Nat) (R : Nd × S) (wr : World) : Prop :=
  ∃ t m k sv wv rv, SN W n K p g cap all nv T wr t m sv wv rv ∧ simpG k m t = R ∧ t.ts.length ≤ k ∧ m.sets.length + m.words.length + m.redirs.length + t.ts.length ≤ 6000 ∧ m = ⟨1, [], false, m.sets, m.words, m.redirs, [], []⟩ ∧ pot t ≤ pot s

set_option maxHeartbeats 16000000 in
theorem simple_any (h : PM W n K p g cap all nv s) (hpot : pot s + 1 ≤ 100000) :
    Calls Try.prog 64 #[.pointer (some ⟨p, 0, none⟩)] W (NodePost W n K p g cap all nv s.simple) := by
  have H := Lib.hid h
  obtain ⟨R, hR⟩ : ∃ R, simpG s.ts.length (nd 1 []) s = R := ⟨_, rfl⟩
  have HV := Lib.hid (show s.simple = (R.2.orFail R.1).add R.1 by unfold S.simple; rw [hR])
  have HR0 := Lib.hid hR
  have hl0 := h.x.facts.2.2.2.2.1
  have hnvW : ∀ k, nv.ownBlock = some k → k < W.heap.size := fun k hk => by
    obtain ⟨cs, h1, _⟩ := h.x.nds
    exact (ownz_type h1 hk).2.1
  have HS0 := Lib.hid (show SN W n K p g cap all nv W.heap.size (W.alloc (.cells #[.int .i64 1, .string ⟨#[]⟩, .bool false, .slice none 0 0, .slice none 0 0, .slice none 0 0, .slice none 0 0, .slice none 0 0] 32)) s (nd 1 []) (.slice none 0 0) (.slice none 0 0) (.slice none 0 0) from
    ⟨h.alc, (Fr.refl _ _).alloc _, heap_alloc_new _ _, Strs.nil _ _, Strs.nil _ _, Rds.nil _ _, Fresh.nil _, Fresh.nil _, Fresh.nil _, (fun k e => by cases e), Nat.le_refl _, heap_lt h.cell, hnvW, h.x.kb⟩)
  clear h hR hnvW
  go_enter Try.func64, Try.ntmps64
  go_wp2
  go_step3
  go_wp2
  go_step3
  go_wp2
  generalize hT : W.heap.size = T at *
  have HTW := Lib.hid hT
  clear hT
  go_loopw [4, 8, 18, 34] (fun _ _ _ _ wr => spRel (s := s) W n K p g cap all nv T R wr) (fun _ _ _ _ wr => leftOf wr p)
  case atStart => exact ⟨s, _, _, _, _, _, HS0.out, HR0.out, Nat.le_refl _, by simp [nd]; omega, rfl, Int.le_refl _⟩
  case round =>
    obtain ⟨t, m, k, sv, wv, rv, hS, hr, hk, hlen, hmeq, hpt⟩ := hrel
    clear HR0 HS0
    have HS := Lib.hid hS
    have HM := Lib.hid hS.pm.left
    have HMQ := Lib.hid hmeq
    have hpos := hS.pm.x.inv.good.ne
    obtain ⟨k, rfl⟩ : ∃ k', k = k' + 1 := ⟨k - 1, by omega⟩
    rw [simpG] at hr
    have HN := Lib.hid (next_any hS.pm)
    have HB := Lib.hid (fun w => bRedir_hd t.hd w)
    have HI := Lib.hid (fun w => isSet_hd t.hd hS.pm.x.inv.hd_len w)
    have HFI := Lib.hid (fun w => bFirst_hd t.hd w)
    obtain ⟨so, sc, hsv, -, -, -⟩ := ownz_form hS.sets.1
    obtain ⟨wo, wc, hwv, -, -, -⟩ := ownz_form hS.words.1
    obtain ⟨ro, rc, hrv, -, -, -⟩ := ownz_form hS.reds.1
    have inv := hS.pm.x.inv
    cases hb : bRedir t.hd with
    | true =>
      rw [if_pos hb] at hr
      have HV2 := Lib.hid hr
      have HCALL := Lib.hid (fun (w : World) (h : PM w n K p g cap all nv t) => redir_any' h hb)
      have hst := redir_st hb n inv
      have hlt : t.redir.2.ts.length + 1 ≤ t.ts.length := by
        have h1 := hst.2.2.2
        have h2 := redir_ns t
        unfold pot at h1
        rw [h2] at h1
        omega
      have hpt2 : pot t.redir.2 ≤ pot s := by have := hst.2.2.2; omega
      rw [hb] at HB
      clear hS hr hb hst inv hmeq hsv hwv hrv
      go_upto_region 4 with (first | (go_at_call 25; (with_reducible refine HN.out.mono ?_); rintro e wn ⟨rfl, hF0⟩; have HSn := Lib.hid ((HS.out.call0 hF0).al (.cells #[.int .i64 t.hd.kind, .string (st t.hd.text), .int .i64 t.hd.at_] 40)); clear hF0) | (go_at_call 39; (with_reducible refine (HB.out _).mono ?_); rintro e w1 ⟨rfl, hF1⟩; obtain ⟨e0, e1, e2⟩ := cells3 (kept3 hF1); have HS1 := Lib.hid (HSn.out.call0 hF1); have HKT := Lib.hid (kept3 hF1); obtain ⟨x0, x1, x2, x3, x4, x5, x6, x7⟩ := HS1.out.cells; clear hF1))
      clear e0 e1 e2 x0 x1 x2 x3 x4 x5 x6 x7
      refine wp_region_noPanic ?_
      refine wp_region_any (by kernel_rfl) (any_of_T (S := Late 7 (fun W' => W'.cell? ⟨T, 5, none⟩ = some rv)) _ _ _ _ ?_)
      change anyT _ _ _ _ _ _ _ _ w1.drew
      have HD1 := Lib.hid HS1.out.dr
      have aS : ∀ l, Late 7 (fun W' => W'.cell? ⟨T, 5, none⟩ = some rv) l w1.drew := fun l _ => HD1.out.cells.2.2.2.2.2.1
      refine anyT_take (i := 0) (v := .pointer (some ⟨T, 5, none⟩)) (fun W' => W'.cell? ⟨T, 5, none⟩ = some rv) rfl (by kernel_rfl) (by kernel_rfl) (by kernel_rfl) (fun _ _ _ h => h) (fun _ _ hc hl hS => hS (late_no hc hl (by kernel_rfl))) (fun _ _ => late_dep (by decide)) (Clos.start _) (Or.inl ⟨by kernel_rfl, ?ry0⟩) (aS _) (fun ac0 aS0 => ?rr0)
      case ry0 => (intro W' hSw; go_simp; try (first | rfl | decide | decide +kernel))
      try simp only [Act.put, List.setIfInBounds_toArray, List.set_cons_zero, List.set_cons_succ]
      refine anyT_take (i := 1) (v := rv) (fun W' => W'.cell? ⟨T, 5, none⟩ = some rv) rfl (by kernel_rfl) (by kernel_rfl) (by kernel_rfl) (fun _ _ _ h => h) (fun _ _ hc hl hS => hS (late_no hc hl (by kernel_rfl))) (fun _ _ => late_dep (by decide)) ac0 (Or.inl ⟨by kernel_rfl, ?ry1⟩) aS0 (fun ac1 aS1 => ?rr1)
      case ry1 => (intro W' hSw; go_simp; try (first | rfl | decide | decide +kernel))
      try simp only [Act.put, List.setIfInBounds_toArray, List.set_cons_zero, List.set_cons_succ]
      refine anyT_take (i := 2) (v := .pointer (some ⟨p, 0, none⟩)) (fun W' => W'.cell? ⟨T, 5, none⟩ = some rv) rfl (by kernel_rfl) (by kernel_rfl) (by kernel_rfl) (fun _ _ _ h => h) (fun _ _ hc hl hS => hS (late_no hc hl (by kernel_rfl))) (fun _ _ => late_dep (by decide)) ac1 (Or.inl ⟨by kernel_rfl, ?ry2⟩) aS1 (fun ac2 aS2 => ?rr2)
      case ry2 => (intro W' hSw; go_simp; try (first | rfl | decide | decide +kernel))
      try simp only [Act.put, List.setIfInBounds_toArray, List.set_cons_zero, List.set_cons_succ]
      refine anyT_step (k := 3) (by kernel_rfl) rfl (fun K hK => ?rs3)
      case rs3 =>
        have HK := Lib.hid hK
        clear hK
        go_simp
        refine (HCALL.out _ HD1.out.pm).mono ?_
        rintro e w3 ⟨rfl, hP3, hF3⟩
        have HS3 := Lib.hid (HD1.out.call hP3 hF3)
        clear hP3 hF3
        refine HK.out _ _ (fun _ => HS3.out.cells.2.2.2.2.2.1) ?_
        clear HK
        try simp only [Act.put, List.setIfInBounds_toArray, List.set_cons_zero, List.set_cons_succ]
        refine anyT_step (k := 4) (by kernel_rfl) rfl (fun K hK => ?rs4)
        case rs4 =>
          have HK := Lib.hid hK
          clear hK
          go_simp
          have HS4 := Lib.hid (HS3.out.al (.cells #[.int .i64 t.redir.1.fd, .string (st t.redir.1.op), .string (st t.redir.1.word)] 43))
          refine HK.out _ _ (fun _ => HS4.out.cells.2.2.2.2.2.1) ?_
          clear HK
          try simp only [Act.put, List.setIfInBounds_toArray, List.set_cons_zero, List.set_cons_succ]
          refine anyT_step (k := 5) (by kernel_rfl) rfl (fun K hK => ?rs5)
          case rs5 =>
            have HK := Lib.hid hK
            clear hK
            refine wp_rd_step rfl _ _ (by rfl) m.redirs t.redir.1 rfl rfl rfl HS3.out.reds (by omega) ?_
            intro g5 cap5 w5 hrow5 hat5 hF5
            have hf5 : Fresh W (.slice (some ⟨g5, 0, none⟩) (m.redirs.length + 1) cap5) := HS3.out.fd.more HS3.out.fr.size hat5
            have HS5 := Lib.hid (HS3.out.addR hF5 hrow5 hf5)
            obtain ⟨-, -, hT5⟩ := HS3.out.grow0 hF5 HS3.out.reds.1 ⟨by decide, by decide, by decide⟩ HS3.out.fd 5 (.bool true)
            have e5 : w5.cell? ⟨T, 5, none⟩ = some rv := by rw [Lib.cell_of_heap hT5]; rfl
            have g5f := Lib.frozen_of_heap hT5 5
            clear hrow5 hat5 hF5 hf5 hT5
            refine HK.out _ _ (fun _ => e5) ?_
            clear HK
            try simp only [Act.put, List.setIfInBounds_toArray, List.set_cons_zero, List.set_cons_succ]
            refine anyT_step (k := 6) (by kernel_rfl) rfl (fun K hK => ?rs6)
            case rs6 =>
              have HK := Lib.hid hK
              clear hK
              go_simp
              refine HK.out _ _ (fun _ => e5) ?_
              clear HK
              try simp only [Act.put, List.setIfInBounds_toArray, List.set_cons_zero, List.set_cons_succ]
              refine anyT_step (k := 7) (by kernel_rfl) rfl (fun K hK => ?rs7)
              case rs7 =>
                have HK := Lib.hid hK
                clear hK
                go_simp
                refine HK.out _ _ (fun h => absurd h (by decide)) ?_
                clear HK
                try simp only [Act.put, List.setIfInBounds_toArray, List.set_cons_zero, List.set_cons_succ]
                refine anyT_done (by kernel_rfl) ?_
                refine NoPanic.normal ?_
                clear e5 g5f
                generalize w5.setCell ⟨T, 5, none⟩ (.slice (some ⟨g5, 0, none⟩) (m.redirs.length + 1) cap5) = w6 at *
                go_wp2
                refine ⟨⟨_, _, k, _, _, _, HS5.out, HV2.out, by omega, by simp; omega, by show ({ m with redirs := _ } : Nd) = _; rw [HMQ.out], hpt2⟩, ?_⟩
                rw [HS5.out.pm.left, HM.out]; omega
    | false =>
      rw [if_neg (by rw [hb]; decide)] at hr
      rw [hb] at HB
      have hword : t.word.2.ts.length ≤ t.ts.length ∧ pot t.word.2 ≤ pot t := by
        have h := word_st t n inv
        exact ⟨h.2.1.suf.length_le, by have := h.2.2.2; omega⟩
      have hadv : t.hd.kind = 1 → t.word.2.ts.length + 1 ≤ t.ts.length := fun hk => by
        have e : t.word.2 = t.adv := by unfold S.word; rw [if_pos hk]
        rw [e]
        show t.ts.tail.length + 1 ≤ _
        rw [List.length_tail]; omega
      have HCALL := Lib.hid (fun (w : World) (h : PM w n K p g cap all nv t) => word_any' h)
      subst hsv hwv hrv
      have hq0 : ∀ k : Nat, ((k : Int) == 0) = (k == 0) := fun k => by cases k <;> rfl
      have hq1 : ∀ k : Nat, decide ((k : Int) > 0) = decide (0 < k) := fun k => by rw [Bool.eq_iff_iff]; simp
      cases hw1 : (m.words.length == 0) with
      | true =>
        have hw3 : ((m.words.length : Int) == 0) = true := by rw [hq0]; exact hw1
        have hw4 : ¬ (0 < m.words.length) := by rw [beq_iff_eq] at hw1; omega
        rw [hw1, Bool.true_and] at hr
        have hw5 : decide (0 < m.words.length) = false := decide_eq_false hw4
        cases hi : isSetB t.hd.text with
        | true =>
          rw [if_pos hi] at hr
          have HV2 := Lib.hid hr
          rw [hi] at HI
          have hk1 : t.hd.kind = 1 := by
            rcases inv.next with ⟨_, h1, _⟩ | ⟨_, u, r, _, hg, _⟩
            · rw [h1] at hi; cases hi
            · rcases hg.2.2.2 with ⟨_, q⟩ | ⟨q, _⟩ | ⟨_, c, q, _⟩
              · have hh : ∀ t ∈ sgTexts, isSetB t = false := by decide
                have := hh _ (List.contains_iff_mem.1 q)
                rw [this] at hi; cases hi
              · exact q
              · rw [q] at hi
                unfold isSetB at hi
                simp only [Bool.and_eq_true, decide_eq_true_eq, List.length_cons, List.length_nil] at hi
                omega
          have hlt := hadv hk1
          have hpt2 : pot t.word.2 ≤ pot s := by have := hword.2; omega
          clear hq0 hq1 hS hr hb inv hmeq hadv hword hk1 hw1 hi
          go_upto_region 6 with (first | (go_at_call 25; (with_reducible refine HN.out.mono ?_); rintro e wn ⟨rfl, hF0⟩; have HSn := Lib.hid ((HS.out.call0 hF0).al (.cells #[.int .i64 t.hd.kind, .string (st t.hd.text), .int .i64 t.hd.at_] 40)); clear hF0) | (go_at_call 39; (with_reducible refine (HB.out _).mono ?_); rintro e wb ⟨rfl, hF1⟩; obtain ⟨e0, e1, e2⟩ := cells3 (kept3 hF1); have HSb := Lib.hid (HSn.out.call0 hF1); have HKT := Lib.hid (kept3 hF1); obtain ⟨x0, x1, x2, x3, x4, x5, x6, x7⟩ := HSb.out.cells; clear hF1) | (go_at_call 77; (with_reducible refine (HI.out _).mono ?_); rintro e w1 ⟨rfl, hF1⟩; clear e0 e1 e2 x0 x1 x2 x3 x4 x5 x6 x7; have HKT1 := Lib.hid ((hF1.block _ (heap_lt HKT.out) id).trans HKT.out); have HS1 := Lib.hid (HSb.out.call0 hF1); obtain ⟨e0, e1, e2⟩ := cells3 HKT1.out; obtain ⟨x0, x1, x2, x3, x4, x5, x6, x7⟩ := HS1.out.cells; clear hF1))
          clear e0 e1 e2 x0 x1 x2 x3 x4 x5 x6 x7
          refine wp_region_noPanic ?_
          refine wp_region_any (by kernel_rfl) (any_of_T (S := Late 7 (fun W' => W'.cell? ⟨T, 3, none⟩ = some (.slice so m.sets.length sc))) _ _ _ _ ?_)
          change anyT _ _ _ _ _ _ _ _ w1.drew
          have HD1 := Lib.hid HS1.out.dr
          have aS : ∀ l, Late 7 (fun W' => W'.cell? ⟨T, 3, none⟩ = some (.slice so m.sets.length sc)) l w1.drew := fun l _ => HD1.out.cells.2.2.2.1
          refine anyT_take (i := 0) (v := .pointer (some ⟨T, 3, none⟩)) (fun W' => W'.cell? ⟨T, 3, none⟩ = some (.slice so m.sets.length sc)) rfl (by kernel_rfl) (by kernel_rfl) (by kernel_rfl) (fun _ _ _ h => h) (fun _ _ hc hl hS => hS (late_no hc hl (by kernel_rfl))) (fun _ _ => late_dep (by decide)) (Clos.start _) (Or.inl ⟨by kernel_rfl, ?sy0⟩) (aS _) (fun ac0 aS0 => ?sr0)
          case sy0 => (intro W' hSw; go_simp; try (first | rfl | decide | decide +kernel))
          try simp only [Act.put, List.setIfInBounds_toArray, List.set_cons_zero, List.set_cons_succ]
          refine anyT_take (i := 1) (v := (.slice so m.sets.length sc)) (fun W' => W'.cell? ⟨T, 3, none⟩ = some (.slice so m.sets.length sc)) rfl (by kernel_rfl) (by kernel_rfl) (by kernel_rfl) (fun _ _ _ h => h) (fun _ _ hc hl hS => hS (late_no hc hl (by kernel_rfl))) (fun _ _ => late_dep (by decide)) ac0 (Or.inl ⟨by kernel_rfl, ?sy1⟩) aS0 (fun ac1 aS1 => ?sr1)
          case sy1 => (intro W' hSw; go_simp; try (first | rfl | decide | decide +kernel))
          try simp only [Act.put, List.setIfInBounds_toArray, List.set_cons_zero, List.set_cons_succ]
          refine anyT_take (i := 2) (v := .pointer (some ⟨p, 0, none⟩)) (fun W' => W'.cell? ⟨T, 3, none⟩ = some (.slice so m.sets.length sc)) rfl (by kernel_rfl) (by kernel_rfl) (by kernel_rfl) (fun _ _ _ h => h) (fun _ _ hc hl hS => hS (late_no hc hl (by kernel_rfl))) (fun _ _ => late_dep (by decide)) ac1 (Or.inl ⟨by kernel_rfl, ?sy2⟩) aS1 (fun ac2 aS2 => ?sr2)
          case sy2 => (intro W' hSw; go_simp; try (first | rfl | decide | decide +kernel))
          try simp only [Act.put, List.setIfInBounds_toArray, List.set_cons_zero, List.set_cons_succ]
          refine anyT_step (k := 3) (by kernel_rfl) rfl (fun K hK => ?ss3)
          case ss3 =>
            have HK := Lib.hid hK
            clear hK
            go_simp
            refine (HCALL.out _ HD1.out.pm).mono ?_
            rintro e w3 ⟨rfl, hP3, hF3⟩
            have HS3 := Lib.hid (HD1.out.call hP3 hF3)
            clear hP3 hF3
            refine HK.out _ _ (fun _ => HS3.out.cells.2.2.2.1) ?_
            clear HK
            try simp only [Act.put, List.setIfInBounds_toArray, List.set_cons_zero, List.set_cons_succ]
            refine anyT_step (k := 4) (by kernel_rfl) rfl (fun K hK => ?ss4)
            case ss4 =>
              have HK := Lib.hid hK
              clear hK
              go_simp
              have HS4 := Lib.hid (HS3.out.al (.cells #[.string (st t.word.1)] 9))
              refine HK.out _ _ (fun _ => HS4.out.cells.2.2.2.1) ?_
              clear HK
              try simp only [Act.put, List.setIfInBounds_toArray, List.set_cons_zero, List.set_cons_succ]
              refine anyT_step (k := 5) (by kernel_rfl) rfl (fun K hK => ?ss5)
              case ss5 =>
                have HK := Lib.hid hK
                clear hK
                refine wp_str_step rfl _ _ (by rfl) m.sets t.word.1 rfl rfl rfl HS3.out.sets (by omega) ?_
                intro g5 cap5 w5 hrow5 hat5 hF5
                have hf5 : Fresh W (.slice (some ⟨g5, 0, none⟩) (m.sets.length + 1) cap5) := HS3.out.fs.more HS3.out.fr.size hat5
                have HS5 := Lib.hid (HS3.out.addS hF5 hrow5 hf5 (fun k e => by have e' : some g5 = some k := e; cases e'; rcases hat5 with e | e; exact .inl e; exact .inr (by omega)))
                obtain ⟨-, -, hT5⟩ := HS3.out.grow0 hF5 HS3.out.sets.1 ⟨by decide, by decide, by decide⟩ HS3.out.fs 3 (.bool true)
                have e5 : w5.cell? ⟨T, 3, none⟩ = some (.slice so m.sets.length sc) := by rw [Lib.cell_of_heap hT5]; rfl
                have g5f := Lib.frozen_of_heap hT5 3
                clear hrow5 hat5 hF5 hf5 hT5
                refine HK.out _ _ (fun _ => e5) ?_
                clear HK
                try simp only [Act.put, List.setIfInBounds_toArray, List.set_cons_zero, List.set_cons_succ]
                refine anyT_step (k := 6) (by kernel_rfl) rfl (fun K hK => ?ss6)
                case ss6 =>
                  have HK := Lib.hid hK
                  clear hK
                  go_simp
                  refine HK.out _ _ (fun _ => e5) ?_
                  clear HK
                  try simp only [Act.put, List.setIfInBounds_toArray, List.set_cons_zero, List.set_cons_succ]
                  refine anyT_step (k := 7) (by kernel_rfl) rfl (fun K hK => ?ss7)
                  case ss7 =>
                    have HK := Lib.hid hK
                    clear hK
                    go_simp
                    refine HK.out _ _ (fun h => absurd h (by decide)) ?_
                    clear HK
                    try simp only [Act.put, List.setIfInBounds_toArray, List.set_cons_zero, List.set_cons_succ]
                    refine anyT_done (by kernel_rfl) ?_
                    refine NoPanic.normal ?_
                    clear e5 g5f
                    generalize w5.setCell ⟨T, 3, none⟩ (.slice (some ⟨g5, 0, none⟩) (m.sets.length + 1) cap5) = w6 at *
                    go_wp2
                    refine ⟨⟨_, _, k, _, _, _, HS5.out, HV2.out, by omega, by simp; omega, by show ({ m with sets := _ } : Nd) = _; rw [HMQ.out], hpt2⟩, ?_⟩
                    rw [HS5.out.pm.left, HM.out]; omega
        | false =>
          rw [if_neg (by rw [hi]; decide)] at hr
          rw [hi] at HI
          rw [hw5, Bool.false_and, Bool.or_false] at hr
          cases hf : bFirst t.hd with
          | true =>
            rw [if_pos hf] at hr
            have HV2 := Lib.hid hr
            rw [hf] at HFI
            have hk1 : t.hd.kind = 1 := by
              unfold bFirst at hf
              rw [Bool.and_eq_true, beq_iff_eq] at hf
              exact hf.1
            have hlt := hadv hk1
            have hpt2 : pot t.word.2 ≤ pot s := by have := hword.2; omega
            clear hq0 hq1 hS hr hb inv hmeq hadv hword hk1 hw1 hi hf
            go_upto_region 9 with (first | (go_at_call 25; (with_reducible refine HN.out.mono ?_); rintro e wn ⟨rfl, hF0⟩; have HSn := Lib.hid ((HS.out.call0 hF0).al (.cells #[.int .i64 t.hd.kind, .string (st t.hd.text), .int .i64 t.hd.at_] 40)); clear hF0) | (go_at_call 39; (with_reducible refine (HB.out _).mono ?_); rintro e wb ⟨rfl, hF1⟩; obtain ⟨e0, e1, e2⟩ := cells3 (kept3 hF1); have HSb := Lib.hid (HSn.out.call0 hF1); have HKT := Lib.hid (kept3 hF1); obtain ⟨x0, x1, x2, x3, x4, x5, x6, x7⟩ := HSb.out.cells; clear hF1) | (go_at_call 77; (with_reducible refine (HI.out _).mono ?_); rintro e wc1 ⟨rfl, hF1⟩; clear e0 e1 e2 x0 x1 x2 x3 x4 x5 x6 x7; have HKT1 := Lib.hid ((hF1.block _ (heap_lt HKT.out) id).trans HKT.out); have HSc := Lib.hid (HSb.out.call0 hF1); obtain ⟨e0, e1, e2⟩ := cells3 HKT1.out; obtain ⟨x0, x1, x2, x3, x4, x5, x6, x7⟩ := HSc.out.cells; clear hF1) | (go_at_call 40; (with_reducible refine (HFI.out _).mono ?_); rintro e w1 ⟨rfl, hF1⟩; clear e0 e1 e2 x0 x1 x2 x3 x4 x5 x6 x7; have HKT2 := Lib.hid ((hF1.block _ (heap_lt HKT1.out) id).trans HKT1.out); have HS1 := Lib.hid (HSc.out.call0 hF1); obtain ⟨e0, e1, e2⟩ := cells3 HKT2.out; obtain ⟨x0, x1, x2, x3, x4, x5, x6, x7⟩ := HS1.out.cells; clear hF1))
            clear e0 e1 e2 x0 x1 x2 x3 x4 x5 x6 x7
            refine wp_region_noPanic ?_
            refine wp_region_any (by kernel_rfl) (any_of_T (S := Late 7 (fun W' => W'.cell? ⟨T, 4, none⟩ = some (.slice wo m.words.length wc))) _ _ _ _ ?_)
            change anyT _ _ _ _ _ _ _ _ w1.drew
            have HD1 := Lib.hid HS1.out.dr
            have aS : ∀ l, Late 7 (fun W' => W'.cell? ⟨T, 4, none⟩ = some (.slice wo m.words.length wc)) l w1.drew := fun l _ => HD1.out.cells.2.2.2.2.1
            refine anyT_take (i := 0) (v := .pointer (some ⟨T, 4, none⟩)) (fun W' => W'.cell? ⟨T, 4, none⟩ = some (.slice wo m.words.length wc)) rfl (by kernel_rfl) (by kernel_rfl) (by kernel_rfl) (fun _ _ _ h => h) (fun _ _ hc hl hS => hS (late_no hc hl (by kernel_rfl))) (fun _ _ => late_dep (by decide)) (Clos.start _) (Or.inl ⟨by kernel_rfl, ?way0⟩) (aS _) (fun ac0 aS0 => ?war0)
            case way0 => (intro W' hSw; go_simp; try (first | rfl | decide | decide +kernel))
            try simp only [Act.put, List.setIfInBounds_toArray, List.set_cons_zero, List.set_cons_succ]
            refine anyT_take (i := 1) (v := (.slice wo m.words.length wc)) (fun W' => W'.cell? ⟨T, 4, none⟩ = some (.slice wo m.words.length wc)) rfl (by kernel_rfl) (by kernel_rfl) (by kernel_rfl) (fun _ _ _ h => h) (fun _ _ hc hl hS => hS (late_no hc hl (by kernel_rfl))) (fun _ _ => late_dep (by decide)) ac0 (Or.inl ⟨by kernel_rfl, ?way1⟩) aS0 (fun ac1 aS1 => ?war1)
            case way1 => (intro W' hSw; go_simp; try (first | rfl | decide | decide +kernel))
            try simp only [Act.put, List.setIfInBounds_toArray, List.set_cons_zero, List.set_cons_succ]
            refine anyT_take (i := 2) (v := .pointer (some ⟨p, 0, none⟩)) (fun W' => W'.cell? ⟨T, 4, none⟩ = some (.slice wo m.words.length wc)) rfl (by kernel_rfl) (by kernel_rfl) (by kernel_rfl) (fun _ _ _ h => h) (fun _ _ hc hl hS => hS (late_no hc hl (by kernel_rfl))) (fun _ _ => late_dep (by decide)) ac1 (Or.inl ⟨by kernel_rfl, ?way2⟩) aS1 (fun ac2 aS2 => ?war2)
            case way2 => (intro W' hSw; go_simp; try (first | rfl | decide | decide +kernel))
            try simp only [Act.put, List.setIfInBounds_toArray, List.set_cons_zero, List.set_cons_succ]
            refine anyT_step (k := 3) (by kernel_rfl) rfl (fun K hK => ?was3)
            case was3 =>
              have HK := Lib.hid hK
              clear hK
              go_simp
              refine (HCALL.out _ HD1.out.pm).mono ?_
              rintro e w3 ⟨rfl, hP3, hF3⟩
              have HS3 := Lib.hid (HD1.out.call hP3 hF3)
              clear hP3 hF3
              refine HK.out _ _ (fun _ => HS3.out.cells.2.2.2.2.1) ?_
              clear HK
              try simp only [Act.put, List.setIfInBounds_toArray, List.set_cons_zero, List.set_cons_succ]
              refine anyT_step (k := 4) (by kernel_rfl) rfl (fun K hK => ?was4)
              case was4 =>
                have HK := Lib.hid hK
                clear hK
                go_simp
                have HS4 := Lib.hid (HS3.out.al (.cells #[.string (st t.word.1)] 9))
                refine HK.out _ _ (fun _ => HS4.out.cells.2.2.2.2.1) ?_
                clear HK
                try simp only [Act.put, List.setIfInBounds_toArray, List.set_cons_zero, List.set_cons_succ]
                refine anyT_step (k := 5) (by kernel_rfl) rfl (fun K hK => ?was5)
                case was5 =>
                  have HK := Lib.hid hK
                  clear hK
                  refine wp_str_step rfl _ _ (by rfl) m.words t.word.1 rfl rfl rfl HS3.out.words (by omega) ?_
                  intro g5 cap5 w5 hrow5 hat5 hF5
                  have hf5 : Fresh W (.slice (some ⟨g5, 0, none⟩) (m.words.length + 1) cap5) := HS3.out.fw.more HS3.out.fr.size hat5
                  have HS5 := Lib.hid (HS3.out.addW hF5 hrow5 hf5 (fun k e => by have e' : some g5 = some k := e; cases e'; rcases hat5 with e | e; exact .inl e; exact .inr (by omega)))
                  obtain ⟨-, -, hT5⟩ := HS3.out.grow0 hF5 HS3.out.words.1 ⟨by decide, by decide, by decide⟩ HS3.out.fw 4 (.bool true)
                  have e5 : w5.cell? ⟨T, 4, none⟩ = some (.slice wo m.words.length wc) := by rw [Lib.cell_of_heap hT5]; rfl
                  have g5f := Lib.frozen_of_heap hT5 4
                  clear hrow5 hat5 hF5 hf5 hT5
                  refine HK.out _ _ (fun _ => e5) ?_
                  clear HK
                  try simp only [Act.put, List.setIfInBounds_toArray, List.set_cons_zero, List.set_cons_succ]
                  refine anyT_step (k := 6) (by kernel_rfl) rfl (fun K hK => ?was6)
                  case was6 =>
                    have HK := Lib.hid hK
                    clear hK
                    go_simp
                    refine HK.out _ _ (fun _ => e5) ?_
                    clear HK
                    try simp only [Act.put, List.setIfInBounds_toArray, List.set_cons_zero, List.set_cons_succ]
                    refine anyT_step (k := 7) (by kernel_rfl) rfl (fun K hK => ?was7)
                    case was7 =>
                      have HK := Lib.hid hK
                      clear hK
                      go_simp
                      refine HK.out _ _ (fun h => absurd h (by decide)) ?_
                      clear HK
                      try simp only [Act.put, List.setIfInBounds_toArray, List.set_cons_zero, List.set_cons_succ]
                      refine anyT_done (by kernel_rfl) ?_
                      refine NoPanic.normal ?_
                      clear e5 g5f
                      generalize w5.setCell ⟨T, 4, none⟩ (.slice (some ⟨g5, 0, none⟩) (m.words.length + 1) cap5) = w6 at *
                      go_wp2
                      refine ⟨⟨_, _, k, _, _, _, HS5.out, HV2.out, by omega, by simp; omega, by show ({ m with words := _ } : Nd) = _; rw [HMQ.out], hpt2⟩, ?_⟩
                      rw [HS5.out.pm.left, HM.out]; omega
          | false =>
            rw [if_neg (by rw [hf]; decide)] at hr
            have HV2 := Lib.hid hr
            rw [hf] at HFI
            clear hq0 hq1 hmeq hS hr hb inv hadv hword hw1 hi hf
            go_upto_region 10 with (first | (go_at_call 25; (with_reducible refine HN.out.mono ?_); rintro e wn ⟨rfl, hF0⟩; have HSn := Lib.hid ((HS.out.call0 hF0).al (.cells #[.int .i64 t.hd.kind, .string (st t.hd.text), .int .i64 t.hd.at_] 40)); clear hF0) | (go_at_call 39; (with_reducible refine (HB.out _).mono ?_); rintro e wb ⟨rfl, hF1⟩; obtain ⟨e0, e1, e2⟩ := cells3 (kept3 hF1); have HSb := Lib.hid (HSn.out.call0 hF1); have HKT := Lib.hid (kept3 hF1); obtain ⟨x0, x1, x2, x3, x4, x5, x6, x7⟩ := HSb.out.cells; clear hF1) | (go_at_call 77; (with_reducible refine (HI.out _).mono ?_); rintro e wc1 ⟨rfl, hF1⟩; clear e0 e1 e2 x0 x1 x2 x3 x4 x5 x6 x7; have HKT1 := Lib.hid ((hF1.block _ (heap_lt HKT.out) id).trans HKT.out); have HSc := Lib.hid (HSb.out.call0 hF1); obtain ⟨e0, e1, e2⟩ := cells3 HKT1.out; obtain ⟨x0, x1, x2, x3, x4, x5, x6, x7⟩ := HSc.out.cells; clear hF1) | (go_at_call 40; (with_reducible refine (HFI.out _).mono ?_); rintro e w1 ⟨rfl, hF1⟩; clear e0 e1 e2 x0 x1 x2 x3 x4 x5 x6 x7; have HKT2 := Lib.hid ((hF1.block _ (heap_lt HKT1.out) id).trans HKT1.out); have HS1 := Lib.hid (HSc.out.call0 hF1); obtain ⟨e0, e1, e2⟩ := cells3 HKT2.out; obtain ⟨x0, x1, x2, x3, x4, x5, x6, x7⟩ := HS1.out.cells; clear hF1))
            clear e0 e1 e2
            by_cases hc : m.sets.length + m.words.length + m.redirs.length = 0
            · have hc1 : (((m.sets.length : Int) + (m.words.length : Int) + (m.redirs.length : Int)) == 0) = true := by rw [beq_iff_eq]; omega
              have HE := Lib.hid (show s.simple = t.fail.add m by rw [HV.out, ← HV2.out]; unfold S.orFail; rw [if_pos hc])
              have hpf : pot t.fail ≤ pot t := by have := (fail_st t n HS1.out.pm.x.inv).2.2.2; omega
              clear hc
              go_wp2_with (first | (go_at_call 26; (with_reducible refine (fail_any HS1.out.pm).mono ?_); rintro e w8 ⟨rfl, hP8, hF8⟩; clear x0 x1 x2 x3 x4 x5 x6 x7; have HS8 := Lib.hid (HS1.out.call hP8 hF8); obtain ⟨x0, x1, x2, x3, x4, x5, x6, x7⟩ := HS8.out.cells; clear hP8 hF8) | (go_at_call 42; (with_reducible refine (HS8.out.done HMQ.out (by omega)).mono ?_); rintro e w9 ⟨rfl, hq⟩; have HQ := Lib.hid hq; clear hq))
              rw [Exit.noGoto_ret]
              go_ret
              unfold NodePost
              rw [HE.out]
              exact ⟨rfl, HQ.out⟩
            · have hc1 : (((m.sets.length : Int) + (m.words.length : Int) + (m.redirs.length : Int)) == 0) = false := by rw [beq_eq_false_iff_ne]; omega
              have HE := Lib.hid (show s.simple = t.add m by rw [HV.out, ← HV2.out]; unfold S.orFail; rw [if_neg hc])
              clear hc
              go_wp2_with (first | (go_at_call 42; (with_reducible refine (HS1.out.done HMQ.out (by omega)).mono ?_); rintro e w9 ⟨rfl, hq⟩; have HQ := Lib.hid hq; clear hq))
              rw [Exit.noGoto_ret]
              go_ret
              unfold NodePost
              rw [HE.out]
              exact ⟨rfl, HQ.out⟩
      | false =>
        have hw3 : ((m.words.length : Int) == 0) = false := by rw [hq0]; exact hw1
        have hw4 : 0 < m.words.length := by rw [beq_eq_false_iff_ne] at hw1; omega
        rw [hw1, Bool.false_and, if_neg (by decide)] at hr
        have hw5 : decide (0 < m.words.length) = true := decide_eq_true hw4
        rw [hw5, Bool.true_and] at hr
        cases hf : bFirst t.hd with
        | true =>
          rw [hf, Bool.true_or, if_pos rfl] at hr
          have HV2 := Lib.hid hr
          rw [hf] at HFI
          have hk1 : t.hd.kind = 1 := by
            unfold bFirst at hf
            rw [Bool.and_eq_true, beq_iff_eq] at hf
            exact hf.1
          have hlt := hadv hk1
          have hpt2 : pot t.word.2 ≤ pot s := by have := hword.2; omega
          clear hq0 hq1 hmeq hS hr hb inv hadv hword hk1 hw1 hf
          go_upto_region 9 with (first | (go_at_call 25; (with_reducible refine HN.out.mono ?_); rintro e wn ⟨rfl, hF0⟩; have HSn := Lib.hid ((HS.out.call0 hF0).al (.cells #[.int .i64 t.hd.kind, .string (st t.hd.text), .int .i64 t.hd.at_] 40)); clear hF0) | (go_at_call 39; (with_reducible refine (HB.out _).mono ?_); rintro e wb ⟨rfl, hF1⟩; obtain ⟨e0, e1, e2⟩ := cells3 (kept3 hF1); have HSb := Lib.hid (HSn.out.call0 hF1); have HKT := Lib.hid (kept3 hF1); obtain ⟨x0, x1, x2, x3, x4, x5, x6, x7⟩ := HSb.out.cells; clear hF1) | (go_at_call 40; (with_reducible refine (HFI.out _).mono ?_); rintro e w1 ⟨rfl, hF1⟩; clear e0 e1 e2 x0 x1 x2 x3 x4 x5 x6 x7; have HKT2 := Lib.hid ((hF1.block _ (heap_lt HKT.out) id).trans HKT.out); have HS1 := Lib.hid (HSb.out.call0 hF1); obtain ⟨e0, e1, e2⟩ := cells3 HKT2.out; obtain ⟨x0, x1, x2, x3, x4, x5, x6, x7⟩ := HS1.out.cells; clear hF1))
          clear e0 e1 e2 x0 x1 x2 x3 x4 x5 x6 x7
          refine wp_region_noPanic ?_
          refine wp_region_any (by kernel_rfl) (any_of_T (S := Late 7 (fun W' => W'.cell? ⟨T, 4, none⟩ = some (.slice wo m.words.length wc))) _ _ _ _ ?_)
          change anyT _ _ _ _ _ _ _ _ w1.drew
          have HD1 := Lib.hid HS1.out.dr
          have aS : ∀ l, Late 7 (fun W' => W'.cell? ⟨T, 4, none⟩ = some (.slice wo m.words.length wc)) l w1.drew := fun l _ => HD1.out.cells.2.2.2.2.1
          refine anyT_take (i := 0) (v := .pointer (some ⟨T, 4, none⟩)) (fun W' => W'.cell? ⟨T, 4, none⟩ = some (.slice wo m.words.length wc)) rfl (by kernel_rfl) (by kernel_rfl) (by kernel_rfl) (fun _ _ _ h => h) (fun _ _ hc hl hS => hS (late_no hc hl (by kernel_rfl))) (fun _ _ => late_dep (by decide)) (Clos.start _) (Or.inl ⟨by kernel_rfl, ?wby0⟩) (aS _) (fun ac0 aS0 => ?wbr0)
          case wby0 => (intro W' hSw; go_simp; try (first | rfl | decide | decide +kernel))
          try simp only [Act.put, List.setIfInBounds_toArray, List.set_cons_zero, List.set_cons_succ]
          refine anyT_take (i := 1) (v := (.slice wo m.words.length wc)) (fun W' => W'.cell? ⟨T, 4, none⟩ = some (.slice wo m.words.length wc)) rfl (by kernel_rfl) (by kernel_rfl) (by kernel_rfl) (fun _ _ _ h => h) (fun _ _ hc hl hS => hS (late_no hc hl (by kernel_rfl))) (fun _ _ => late_dep (by decide)) ac0 (Or.inl ⟨by kernel_rfl, ?wby1⟩) aS0 (fun ac1 aS1 => ?wbr1)
          case wby1 => (intro W' hSw; go_simp; try (first | rfl | decide | decide +kernel))
          try simp only [Act.put, List.setIfInBounds_toArray, List.set_cons_zero, List.set_cons_succ]
          refine anyT_take (i := 2) (v := .pointer (some ⟨p, 0, none⟩)) (fun W' => W'.cell? ⟨T, 4, none⟩ = some (.slice wo m.words.length wc)) rfl (by kernel_rfl) (by kernel_rfl) (by kernel_rfl) (fun _ _ _ h => h) (fun _ _ hc hl hS => hS (late_no hc hl (by kernel_rfl))) (fun _ _ => late_dep (by decide)) ac1 (Or.inl ⟨by kernel_rfl, ?wby2⟩) aS1 (fun ac2 aS2 => ?wbr2)
          case wby2 => (intro W' hSw; go_simp; try (first | rfl | decide | decide +kernel))
          try simp only [Act.put, List.setIfInBounds_toArray, List.set_cons_zero, List.set_cons_succ]
          refine anyT_step (k := 3) (by kernel_rfl) rfl (fun K hK => ?wbs3)
          case wbs3 =>
            have HK := Lib.hid hK
            clear hK
            go_simp
            refine (HCALL.out _ HD1.out.pm).mono ?_
            rintro e w3 ⟨rfl, hP3, hF3⟩
            have HS3 := Lib.hid (HD1.out.call hP3 hF3)
            clear hP3 hF3
            refine HK.out _ _ (fun _ => HS3.out.cells.2.2.2.2.1) ?_
            clear HK
            try simp only [Act.put, List.setIfInBounds_toArray, List.set_cons_zero, List.set_cons_succ]
            refine anyT_step (k := 4) (by kernel_rfl) rfl (fun K hK => ?wbs4)
            case wbs4 =>
              have HK := Lib.hid hK
              clear hK
              go_simp
              have HS4 := Lib.hid (HS3.out.al (.cells #[.string (st t.word.1)] 9))
              refine HK.out _ _ (fun _ => HS4.out.cells.2.2.2.2.1) ?_
              clear HK
              try simp only [Act.put, List.setIfInBounds_toArray, List.set_cons_zero, List.set_cons_succ]
              refine anyT_step (k := 5) (by kernel_rfl) rfl (fun K hK => ?wbs5)
              case wbs5 =>
                have HK := Lib.hid hK
                clear hK
                refine wp_str_step rfl _ _ (by rfl) m.words t.word.1 rfl rfl rfl HS3.out.words (by omega) ?_
                intro g5 cap5 w5 hrow5 hat5 hF5
                have hf5 : Fresh W (.slice (some ⟨g5, 0, none⟩) (m.words.length + 1) cap5) := HS3.out.fw.more HS3.out.fr.size hat5
                have HS5 := Lib.hid (HS3.out.addW hF5 hrow5 hf5 (fun k e => by have e' : some g5 = some k := e; cases e'; rcases hat5 with e | e; exact .inl e; exact .inr (by omega)))
                obtain ⟨-, -, hT5⟩ := HS3.out.grow0 hF5 HS3.out.words.1 ⟨by decide, by decide, by decide⟩ HS3.out.fw 4 (.bool true)
                have e5 : w5.cell? ⟨T, 4, none⟩ = some (.slice wo m.words.length wc) := by rw [Lib.cell_of_heap hT5]; rfl
                have g5f := Lib.frozen_of_heap hT5 4
                clear hrow5 hat5 hF5 hf5 hT5
                refine HK.out _ _ (fun _ => e5) ?_
                clear HK
                try simp only [Act.put, List.setIfInBounds_toArray, List.set_cons_zero, List.set_cons_succ]
                refine anyT_step (k := 6) (by kernel_rfl) rfl (fun K hK => ?wbs6)
                case wbs6 =>
                  have HK := Lib.hid hK
                  clear hK
                  go_simp
                  refine HK.out _ _ (fun _ => e5) ?_
                  clear HK
                  try simp only [Act.put, List.setIfInBounds_toArray, List.set_cons_zero, List.set_cons_succ]
                  refine anyT_step (k := 7) (by kernel_rfl) rfl (fun K hK => ?wbs7)
                  case wbs7 =>
                    have HK := Lib.hid hK
                    clear hK
                    go_simp
                    refine HK.out _ _ (fun h => absurd h (by decide)) ?_
                    clear HK
                    try simp only [Act.put, List.setIfInBounds_toArray, List.set_cons_zero, List.set_cons_succ]
                    refine anyT_done (by kernel_rfl) ?_
                    refine NoPanic.normal ?_
                    clear e5 g5f
                    generalize w5.setCell ⟨T, 4, none⟩ (.slice (some ⟨g5, 0, none⟩) (m.words.length + 1) cap5) = w6 at *
                    go_wp2
                    refine ⟨⟨_, _, k, _, _, _, HS5.out, HV2.out, by omega, by simp; omega, by show ({ m with words := _ } : Nd) = _; rw [HMQ.out], hpt2⟩, ?_⟩
                    rw [HS5.out.pm.left, HM.out]; omega
        | false =>
          rw [hf, Bool.false_or] at hr
          rw [hf] at HFI
          by_cases hk1 : t.hd.kind = 1
          · rw [if_pos (by rw [beq_iff_eq]; exact hk1)] at hr
            have HV2 := Lib.hid hr
            have hlt := hadv hk1
            have hpt2 : pot t.word.2 ≤ pot s := by have := hword.2; omega
            have hk2 : (t.hd.kind == 1) = true := by rw [beq_iff_eq]; exact hk1
            clear hq0 hq1 hmeq hS hr hb inv hadv hword hk1 hw1 hf
            go_upto_region 9 with (first | (go_at_call 25; (with_reducible refine HN.out.mono ?_); rintro e wn ⟨rfl, hF0⟩; have HSn := Lib.hid ((HS.out.call0 hF0).al (.cells #[.int .i64 t.hd.kind, .string (st t.hd.text), .int .i64 t.hd.at_] 40)); clear hF0) | (go_at_call 39; (with_reducible refine (HB.out _).mono ?_); rintro e wb ⟨rfl, hF1⟩; obtain ⟨e0, e1, e2⟩ := cells3 (kept3 hF1); have HSb := Lib.hid (HSn.out.call0 hF1); have HKT := Lib.hid (kept3 hF1); obtain ⟨x0, x1, x2, x3, x4, x5, x6, x7⟩ := HSb.out.cells; clear hF1) | (go_at_call 40; (with_reducible refine (HFI.out _).mono ?_); rintro e w1 ⟨rfl, hF1⟩; clear e0 e1 e2 x0 x1 x2 x3 x4 x5 x6 x7; have HKT2 := Lib.hid ((hF1.block _ (heap_lt HKT.out) id).trans HKT.out); have HS1 := Lib.hid (HSb.out.call0 hF1); obtain ⟨e0, e1, e2⟩ := cells3 HKT2.out; obtain ⟨x0, x1, x2, x3, x4, x5, x6, x7⟩ := HS1.out.cells; clear hF1))
            clear e0 e1 e2 x0 x1 x2 x3 x4 x5 x6 x7
            refine wp_region_noPanic ?_
            refine wp_region_any (by kernel_rfl) (any_of_T (S := Late 7 (fun W' => W'.cell? ⟨T, 4, none⟩ = some (.slice wo m.words.length wc))) _ _ _ _ ?_)
            change anyT _ _ _ _ _ _ _ _ w1.drew
            have HD1 := Lib.hid HS1.out.dr
            have aS : ∀ l, Late 7 (fun W' => W'.cell? ⟨T, 4, none⟩ = some (.slice wo m.words.length wc)) l w1.drew := fun l _ => HD1.out.cells.2.2.2.2.1
            refine anyT_take (i := 0) (v := .pointer (some ⟨T, 4, none⟩)) (fun W' => W'.cell? ⟨T, 4, none⟩ = some (.slice wo m.words.length wc)) rfl (by kernel_rfl) (by kernel_rfl) (by kernel_rfl) (fun _ _ _ h => h) (fun _ _ hc hl hS => hS (late_no hc hl (by kernel_rfl))) (fun _ _ => late_dep (by decide)) (Clos.start _) (Or.inl ⟨by kernel_rfl, ?wcy0⟩) (aS _) (fun ac0 aS0 => ?wcr0)
            case wcy0 => (intro W' hSw; go_simp; try (first | rfl | decide | decide +kernel))
            try simp only [Act.put, List.setIfInBounds_toArray, List.set_cons_zero, List.set_cons_succ]
            refine anyT_take (i := 1) (v := (.slice wo m.words.length wc)) (fun W' => W'.cell? ⟨T, 4, none⟩ = some (.slice wo m.words.length wc)) rfl (by kernel_rfl) (by kernel_rfl) (by kernel_rfl) (fun _ _ _ h => h) (fun _ _ hc hl hS => hS (late_no hc hl (by kernel_rfl))) (fun _ _ => late_dep (by decide)) ac0 (Or.inl ⟨by kernel_rfl, ?wcy1⟩) aS0 (fun ac1 aS1 => ?wcr1)
            case wcy1 => (intro W' hSw; go_simp; try (first | rfl | decide | decide +kernel))
            try simp only [Act.put, List.setIfInBounds_toArray, List.set_cons_zero, List.set_cons_succ]
            refine anyT_take (i := 2) (v := .pointer (some ⟨p, 0, none⟩)) (fun W' => W'.cell? ⟨T, 4, none⟩ = some (.slice wo m.words.length wc)) rfl (by kernel_rfl) (by kernel_rfl) (by kernel_rfl) (fun _ _ _ h => h) (fun _ _ hc hl hS => hS (late_no hc hl (by kernel_rfl))) (fun _ _ => late_dep (by decide)) ac1 (Or.inl ⟨by kernel_rfl, ?wcy2⟩) aS1 (fun ac2 aS2 => ?wcr2)
            case wcy2 => (intro W' hSw; go_simp; try (first | rfl | decide | decide +kernel))
            try simp only [Act.put, List.setIfInBounds_toArray, List.set_cons_zero, List.set_cons_succ]
            refine anyT_step (k := 3) (by kernel_rfl) rfl (fun K hK => ?wcs3)
            case wcs3 =>
              have HK := Lib.hid hK
              clear hK
              go_simp
              refine (HCALL.out _ HD1.out.pm).mono ?_
              rintro e w3 ⟨rfl, hP3, hF3⟩
              have HS3 := Lib.hid (HD1.out.call hP3 hF3)
              clear hP3 hF3
              refine HK.out _ _ (fun _ => HS3.out.cells.2.2.2.2.1) ?_
              clear HK
              try simp only [Act.put, List.setIfInBounds_toArray, List.set_cons_zero, List.set_cons_succ]
              refine anyT_step (k := 4) (by kernel_rfl) rfl (fun K hK => ?wcs4)
              case wcs4 =>
                have HK := Lib.hid hK
                clear hK
                go_simp
                have HS4 := Lib.hid (HS3.out.al (.cells #[.string (st t.word.1)] 9))
                refine HK.out _ _ (fun _ => HS4.out.cells.2.2.2.2.1) ?_
                clear HK
                try simp only [Act.put, List.setIfInBounds_toArray, List.set_cons_zero, List.set_cons_succ]
                refine anyT_step (k := 5) (by kernel_rfl) rfl (fun K hK => ?wcs5)
                case wcs5 =>
                  have HK := Lib.hid hK
                  clear hK
                  refine wp_str_step rfl _ _ (by rfl) m.words t.word.1 rfl rfl rfl HS3.out.words (by omega) ?_
                  intro g5 cap5 w5 hrow5 hat5 hF5
                  have hf5 : Fresh W (.slice (some ⟨g5, 0, none⟩) (m.words.length + 1) cap5) := HS3.out.fw.more HS3.out.fr.size hat5
                  have HS5 := Lib.hid (HS3.out.addW hF5 hrow5 hf5 (fun k e => by have e' : some g5 = some k := e; cases e'; rcases hat5 with e | e; exact .inl e; exact .inr (by omega)))
                  obtain ⟨-, -, hT5⟩ := HS3.out.grow0 hF5 HS3.out.words.1 ⟨by decide, by decide, by decide⟩ HS3.out.fw 4 (.bool true)
                  have e5 : w5.cell? ⟨T, 4, none⟩ = some (.slice wo m.words.length wc) := by rw [Lib.cell_of_heap hT5]; rfl
                  have g5f := Lib.frozen_of_heap hT5 4
                  clear hrow5 hat5 hF5 hf5 hT5
                  refine HK.out _ _ (fun _ => e5) ?_
                  clear HK
                  try simp only [Act.put, List.setIfInBounds_toArray, List.set_cons_zero, List.set_cons_succ]
                  refine anyT_step (k := 6) (by kernel_rfl) rfl (fun K hK => ?wcs6)
                  case wcs6 =>
                    have HK := Lib.hid hK
                    clear hK
                    go_simp
                    refine HK.out _ _ (fun _ => e5) ?_
                    clear HK
                    try simp only [Act.put, List.setIfInBounds_toArray, List.set_cons_zero, List.set_cons_succ]
                    refine anyT_step (k := 7) (by kernel_rfl) rfl (fun K hK => ?wcs7)
                    case wcs7 =>
                      have HK := Lib.hid hK
                      clear hK
                      go_simp
                      refine HK.out _ _ (fun h => absurd h (by decide)) ?_
                      clear HK
                      try simp only [Act.put, List.setIfInBounds_toArray, List.set_cons_zero, List.set_cons_succ]
                      refine anyT_done (by kernel_rfl) ?_
                      refine NoPanic.normal ?_
                      clear e5 g5f
                      generalize w5.setCell ⟨T, 4, none⟩ (.slice (some ⟨g5, 0, none⟩) (m.words.length + 1) cap5) = w6 at *
                      go_wp2
                      refine ⟨⟨_, _, k, _, _, _, HS5.out, HV2.out, by omega, by simp; omega, by show ({ m with words := _ } : Nd) = _; rw [HMQ.out], hpt2⟩, ?_⟩
                      rw [HS5.out.pm.left, HM.out]; omega
          · rw [if_neg (by rw [beq_iff_eq]; exact hk1)] at hr
            have HV2 := Lib.hid hr
            have hk2 : (t.hd.kind == 1) = false := by rw [beq_eq_false_iff_ne]; exact hk1
            clear hq0 hq1 hmeq hS hr hb inv hadv hword hk1 hw1 hf
            go_upto_region 10 with (first | (go_at_call 25; (with_reducible refine HN.out.mono ?_); rintro e wn ⟨rfl, hF0⟩; have HSn := Lib.hid ((HS.out.call0 hF0).al (.cells #[.int .i64 t.hd.kind, .string (st t.hd.text), .int .i64 t.hd.at_] 40)); clear hF0) | (go_at_call 39; (with_reducible refine (HB.out _).mono ?_); rintro e wb ⟨rfl, hF1⟩; obtain ⟨e0, e1, e2⟩ := cells3 (kept3 hF1); have HSb := Lib.hid (HSn.out.call0 hF1); have HKT := Lib.hid (kept3 hF1); obtain ⟨x0, x1, x2, x3, x4, x5, x6, x7⟩ := HSb.out.cells; clear hF1) | (go_at_call 40; (with_reducible refine (HFI.out _).mono ?_); rintro e w1 ⟨rfl, hF1⟩; clear e0 e1 e2 x0 x1 x2 x3 x4 x5 x6 x7; have HKT2 := Lib.hid ((hF1.block _ (heap_lt HKT.out) id).trans HKT.out); have HS1 := Lib.hid (HSb.out.call0 hF1); obtain ⟨e0, e1, e2⟩ := cells3 HKT2.out; obtain ⟨x0, x1, x2, x3, x4, x5, x6, x7⟩ := HS1.out.cells; clear hF1))
            clear e0 e1 e2
            by_cases hc : m.sets.length + m.words.length + m.redirs.length = 0
            · have hc1 : (((m.sets.length : Int) + (m.words.length : Int) + (m.redirs.length : Int)) == 0) = true := by rw [beq_iff_eq]; omega
              have HE := Lib.hid (show s.simple = t.fail.add m by rw [HV.out, ← HV2.out]; unfold S.orFail; rw [if_pos hc])
              have hpf : pot t.fail ≤ pot t := by have := (fail_st t n HS1.out.pm.x.inv).2.2.2; omega
              clear hc
              go_wp2_with (first | (go_at_call 26; (with_reducible refine (fail_any HS1.out.pm).mono ?_); rintro e w8 ⟨rfl, hP8, hF8⟩; clear x0 x1 x2 x3 x4 x5 x6 x7; have HS8 := Lib.hid (HS1.out.call hP8 hF8); obtain ⟨x0, x1, x2, x3, x4, x5, x6, x7⟩ := HS8.out.cells; clear hP8 hF8) | (go_at_call 42; (with_reducible refine (HS8.out.done HMQ.out (by omega)).mono ?_); rintro e w9 ⟨rfl, hq⟩; have HQ := Lib.hid hq; clear hq))
              rw [Exit.noGoto_ret]
              go_ret
              unfold NodePost
              rw [HE.out]
              exact ⟨rfl, HQ.out⟩
            · have hc1 : (((m.sets.length : Int) + (m.words.length : Int) + (m.redirs.length : Int)) == 0) = false := by rw [beq_eq_false_iff_ne]; omega
              have HE := Lib.hid (show s.simple = t.add m by rw [HV.out, ← HV2.out]; unfold S.orFail; rw [if_neg hc])
              clear hc
              go_wp2_with (first | (go_at_call 42; (with_reducible refine (HS1.out.done HMQ.out (by omega)).mono ?_); rintro e w9 ⟨rfl, hq⟩; have HQ := Lib.hid hq; clear hq))
              rw [Exit.noGoto_ret]
              go_ret
              unfold NodePost
              rw [HE.out]
              exact ⟨rfl, HQ.out⟩
end
end Go.Proofs.Ytoahgblgchmclaa
