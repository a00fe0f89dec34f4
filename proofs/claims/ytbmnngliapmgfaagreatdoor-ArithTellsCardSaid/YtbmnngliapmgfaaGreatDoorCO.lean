/- The document's reader: store. -/
import Derived.Test.YtbmnngliapmgfaaGreatDoorCL
import Derived.Test.YtbmnngliapmgfaaGreatDoorBC
import Derived.Test.YtbmnngliapmgfaaGreatDoorAX
import Derived.Test.YtbmnngliapmgfaaGreatDoorAM0
namespace Go.Proofs.YtbmnngliapmgfaaGreatDoor
open Go.RowKit
set_option linter.unusedVariables false
set_option linter.unusedSimpArgs false
theorem SetR.cellAt2 {W : World} {B g cap : Nat} {o : Own} {m : Nat} (h : SetR W B (.slice (some ⟨g, 0, none⟩) m cap) o) (i : Nat) (hi : i < o.length) : (∃ u, W.cell? ⟨g, i * 4 + 1, none⟩ = some u) ∧ W.frozen? ⟨g, i * 4 + 1, none⟩ = false := by
  rcases h.2 with ⟨h0, _⟩ | ⟨g', cap', cur, hv, _, hg, h1, _, h2, _⟩
  · cases h0
  · injection hv with hv1 hv2 hv3
    injection hv1 with hv1
    injection hv1 with hv1
    subst hv1
    exact ⟨⟨cur[i * 4 + 1]'(by omega), by rw [Lib.cell_of_heap hg]; exact Array.getElem?_eq_getElem (by omega)⟩, Lib.frozen_of_heap hg _⟩
theorem outC_set : ∀ (o : Own) (i : Nat) (n : Bs) (x v : Int), o[i]? = some (n, x) → (outC o).set (i * 4 + 1) (.string (st (Lib.itoa v))) = outC (o.set i (n, v))
  | [], i, n, x, v, h => by simp at h
  | q :: r, 0, n, x, v, h => by
    simp at h
    subst h
    rfl
  | q :: r, i + 1, n, x, v, h => by
    have := outC_set r i n x v (by simpa using h)
    have e : outC (q :: r) = [.string (st q.1), .string (st (Lib.itoa q.2)), .bool false, .bool false] ++ outC r := rfl
    have e2 : outC ((q :: r).set (i + 1) (n, v)) = [.string (st q.1), .string (st (Lib.itoa q.2)), .bool false, .bool false] ++ outC (r.set i (n, v)) := rfl
    rw [e, e2, ← this, show (i + 1) * 4 + 1 = 4 + (i * 4 + 1) by omega, List.set_append_right _ _ (by simp <;> omega)]
    simp only [List.length_cons, List.length_nil]
    rw [show 4 + (i * 4 + 1) - (0 + 1 + 1 + 1 + 1) = i * 4 + 1 by omega]
theorem setV_at : ∀ (o : Own) (i : Nat) (n : Bs) (x v : Int), o[i]? = some (n, x) → n ∉ (o.take i).map Prod.fst → setV o n v = o.set i (n, v)
  | [], i, n, x, v, h, _ => by simp at h
  | q :: r, 0, n, x, v, h, _ => by
    simp at h
    subst h
    rw [setV, if_pos rfl]; rfl
  | q :: r, i + 1, n, x, v, h, hn => by
    rw [List.take_succ_cons, List.map_cons, List.mem_cons, not_or] at hn
    rw [setV, if_neg (fun e => hn.1 e.symm), setV_at r i n x v (by simpa using h) hn.2]; rfl
theorem setV_new : ∀ (o : Own) (n : Bs) (v : Int), n ∉ o.map Prod.fst → setV o n v = o ++ [(n, v)]
  | [], n, v, _ => rfl
  | q :: r, n, v, h => by
    rw [List.map_cons, List.mem_cons, not_or] at h
    rw [setV, if_neg (fun e => h.1 e.symm), setV_new r n v h.2]; rfl
/-- what holds until the last one has come up. -/
def Late (last : Nat) (C : World → Prop) (l : Array Bool) (w : World) : Prop := l.getD last false = false → C w
def lateB (md : Region.Mode) (ops : Array Oper) (last i : Nat) : Bool := match ops[last]? with
  | some o => o.after.any fun e => e.on == i && Region.binds md e
  | none => false
theorem late_no {md : Region.Mode} {ops : Array Oper} {l : Array Bool} {last i : Nat} (hc : Clos md ops l) (hl : l.getD i true = false) (hb : lateB md ops last i = true) : l.getD last false = false := by
  cases h : l.getD last false with
  | false => rfl
  | true =>
    exfalso
    unfold lateB at hb
    split at hb
    · rename_i o ho
      rw [Array.any_eq_true'] at hb
      obtain ⟨e, he, hh⟩ := hb
      rw [Bool.and_eq_true, beq_iff_eq] at hh
      have := hc last o ho h e he hh.2
      rw [hh.1] at this
      by_cases hi : i < l.size
      · simp [Array.getD, hi] at hl this
        rw [hl] at this; cases this
      · simp [Array.getD, hi] at this
    · cases hb
theorem late_dep {last i : Nat} {C : World → Prop} {l : Array Bool} {w : World} (hne : i ≠ last) : Late last C (l.setIfInBounds i true) w ↔ Late last C l w := by
  unfold Late
  have : (l.setIfInBounds i true).getD last false = l.getD last false := by
    simp only [Array.getD_eq_getD_getElem?]
    rw [Array.getElem?_setIfInBounds_ne hne]
  rw [this]
def stPost (W : World) (p : Nat) (s : ByteArray) (k d : Nat) (gv : Value) (o2 : Own) (form : Bool) (err : Int) (e : Ending) (w' : World) : Prop :=
  e = .returned (.tuple #[]) ∧ ∃ sv', RD w' p s k d gv sv' form err ∧ SetR w' (p + 1) sv' o2 ∧ Fr (fun q => p ≤ q) W w'
set_option maxRecDepth 100000 in
set_option maxHeartbeats 16000000 in
theorem rstore_any (W : World) (p : Nat) (s : ByteArray) (k d : Nat) (gv sv : Value) (o : Own) (form : Bool) (err : Int) (n : Bs) (v : Int) (hv : I64 v) (hol : o.length < 100000) (hsv : SetR W (p + 1) sv o) (h : RD W p s k d gv sv form err) :
    Calls Tryz.prog 18 #[.pointer (some ⟨p, 0, none⟩), .string (st n), .int .i64 v] W (stPost W p s k d gv (setV o n v) form err) := by
  obtain ⟨i0, hi, hz0, hz1, hz2⟩ := info_parts infoVar
  obtain ⟨c0, c1, c2, c3, c4, c5, c6, fz⟩ := h.cells
  have f4 := fz 4
  have H := Lib.hid h
  obtain ⟨bo, cap2, rfl, hsc, hsm⟩ := hsv.slice
  have HSV := Lib.hid hsv
  have HC4 := Lib.hid c4
  generalize hole : o.length = ol at *
  have HOL := Lib.hid hole
  clear h hsv hole fz c0 c1 c2 c3 c5 c6
  generalize hy : st n = y at *
  have HY := Lib.hid hy
  clear hy
  go_enter Tryz.func18, Tryz.ntmps18
  go_wp2
  go_loop [6] (fun iv => ∃ i : Nat, iv = .int .i64 i ∧ i ≤ ol ∧ n ∉ (o.take i).map Prod.fst) (fun iv => ol - (intOf iv).toNat)
  case atStart => exact ⟨0, rfl, Nat.zero_le _, by simp⟩
  case round =>
    obtain ⟨i, rfl, hi', hn⟩ := hrel
    by_cases hil : i < ol
    · obtain ⟨q, hq⟩ : ∃ q, o[i]? = some q := ⟨_, List.getElem?_eq_getElem (by rw [HOL.out]; exact hil)⟩
      obtain ⟨g2, cap3, hse, hpg, q0, q1⟩ := HSV.out.at i q hq
      rw [HOL.out] at hse
      injection hse with hs1 hs2 hs3
      subst hs1 hs3
      by_cases he : q.1 = n
      · have ge : ((st q.1).toList == y.toList) = true := by rw [← HY.out, st_same, decide_eq_true he]
        have hil' : i < o.length := by rw [HOL.out]; exact hil
        have hqn : o[i]? = some (n, q.2) := by rw [hq, ← he]
        have HSETV := Lib.hid (fun (w2 : World) (hS : SetR w2 (p + 1) (.slice (some ⟨g2, 0, none⟩) ol cap2) o) => (show SetR (w2.setCell ⟨g2, i * 4 + 1, none⟩ (.string (st (Lib.itoa v)))) (p + 1) (.slice (some ⟨g2, 0, none⟩) ol cap2) (setV o n v) from by
          rw [setV_at o i n q.2 v hqn hn]
          unfold SetR at hS ⊢
          rw [HOL.out] at hS
          rw [List.length_set, HOL.out, ← outC_set o i n q.2 v hqn]
          exact ownz_set hS (by omega) _))
        generalize st q.1 = x1 at *
        clear hn he hq hqn
        go_upto_region 4 with fail
        refine wp_region_noPanic ?_
        refine wp_region_any (by kernel_rfl) (any_of_T (S := fun _ W' => W'.cell? ⟨p, 4, none⟩ = some (.slice (some ⟨g2, 0, none⟩) ol cap2)) _ _ _ _ ?_)
        change anyT _ _ _ _ _ _ _ _ W.drew
        have aS : W.drew.cell? ⟨p, 4, none⟩ = some (.slice (some ⟨g2, 0, none⟩) ol cap2) := HC4.out
        refine anyT_take (i := 0) (v := .pointer (some ⟨p, 0, none⟩)) (fun W' => W'.cell? ⟨p, 4, none⟩ = some (.slice (some ⟨g2, 0, none⟩) ol cap2)) rfl (by kernel_rfl) (by kernel_rfl) (by kernel_rfl) (fun _ _ _ h => h) (fun _ _ _ _ hS => hS) (fun _ _ => Iff.rfl) (Clos.start _) (Or.inl ⟨by kernel_rfl, ?ay0⟩) aS (fun ac0 aS0 => ?ar0)
        case ay0 => (intro W' hSw; go_simp)
        try simp only [Act.put, List.setIfInBounds_toArray, List.set_cons_zero, List.set_cons_succ]
        refine anyT_take (i := 1) (v := .pointer (some ⟨p, 0, none⟩)) (fun W' => W'.cell? ⟨p, 4, none⟩ = some (.slice (some ⟨g2, 0, none⟩) ol cap2)) rfl (by kernel_rfl) (by kernel_rfl) (by kernel_rfl) (fun _ _ _ h => h) (fun _ _ _ _ hS => hS) (fun _ _ => Iff.rfl) ac0 (Or.inl ⟨by kernel_rfl, ?ay1⟩) aS0 (fun ac1 aS1 => ?ar1)
        case ay1 => (intro W' hSw; go_simp)
        try simp only [Act.put, List.setIfInBounds_toArray, List.set_cons_zero, List.set_cons_succ]
        refine anyT_take (i := 2) (v := .pointer (some ⟨p, 4, none⟩)) (fun W' => W'.cell? ⟨p, 4, none⟩ = some (.slice (some ⟨g2, 0, none⟩) ol cap2)) rfl (by kernel_rfl) (by kernel_rfl) (by kernel_rfl) (fun _ _ _ h => h) (fun _ _ _ _ hS => hS) (fun _ _ => Iff.rfl) ac1 (Or.inl ⟨by kernel_rfl, ?ay2⟩) aS1 (fun ac2 aS2 => ?ar2)
        case ay2 => (intro W' hSw; go_simp)
        try simp only [Act.put, List.setIfInBounds_toArray, List.set_cons_zero, List.set_cons_succ]
        refine anyT_take (i := 3) (v := .slice (some ⟨g2, 0, none⟩) ol cap2) (fun W' => W'.cell? ⟨p, 4, none⟩ = some (.slice (some ⟨g2, 0, none⟩) ol cap2)) rfl (by kernel_rfl) (by kernel_rfl) (by kernel_rfl) (fun _ _ _ h => h) (fun _ _ _ _ hS => hS) (fun _ _ => Iff.rfl) ac2 (Or.inl ⟨by kernel_rfl, ?ay3⟩) aS2 (fun ac3 aS3 => ?ar3)
        case ay3 => (intro W' hSw; go_simp)
        try simp only [Act.put, List.setIfInBounds_toArray, List.set_cons_zero, List.set_cons_succ]
        refine anyT_take (i := 4) (v := .int .i64 i) (fun W' => W'.cell? ⟨p, 4, none⟩ = some (.slice (some ⟨g2, 0, none⟩) ol cap2)) rfl (by kernel_rfl) (by kernel_rfl) (by kernel_rfl) (fun _ _ _ h => h) (fun _ _ _ _ hS => hS) (fun _ _ => Iff.rfl) ac3 (Or.inl ⟨by kernel_rfl, ?ay4⟩) aS3 (fun ac4 aS4 => ?ar4)
        case ay4 => (intro W' hSw; go_simp)
        try simp only [Act.put, List.setIfInBounds_toArray, List.set_cons_zero, List.set_cons_succ]
        refine anyT_take (i := 5) (v := .int .i64 v) (fun W' => W'.cell? ⟨p, 4, none⟩ = some (.slice (some ⟨g2, 0, none⟩) ol cap2)) rfl (by kernel_rfl) (by kernel_rfl) (by kernel_rfl) (fun _ _ _ h => h) (fun _ _ _ _ hS => hS) (fun _ _ => Iff.rfl) ac4 (Or.inl ⟨by kernel_rfl, ?ay5⟩) aS4 (fun ac5 aS5 => ?ar5)
        case ay5 => (intro W' hSw; go_simp)
        try simp only [Act.put, List.setIfInBounds_toArray, List.set_cons_zero, List.set_cons_succ]
        refine anyT_step (k := 6) (by kernel_rfl) rfl (fun K hK => ?as6)
        case as6 =>
          have HK := Lib.hid hK
          clear hK
          go_simp
          refine (digits_any v hv _).mono ?_
          rintro e w2 ⟨rfl, hb⟩
          have hF2 := Fr.of_below (S := fun _ => False) hb
          have hR2 : RD w2 p s k d gv (.slice (some ⟨g2, 0, none⟩) ol cap2) form err := by refine RD.fr (S := fun _ => False) ?_ hF2 id; exact H.out
          have hS2 : SetR w2 (p + 1) (.slice (some ⟨g2, 0, none⟩) ol cap2) o := by refine SetR.fr (S := fun _ => False) ?_ hF2 (fun _ _ => id); exact HSV.out
          have HFW := Lib.hid ((Fr.refl (fun _ => False) W).drew.trans hF2)
          have HR2 := Lib.hid hR2
          have HS2 := Lib.hid hS2
          clear hb hF2
          refine HK.out _ _ hR2.cells.2.2.2.2.1 ?_
          clear hR2 hS2
          clear HK
          try simp only [Act.put, List.setIfInBounds_toArray, List.set_cons_zero, List.set_cons_succ]
          refine anyT_step (k := 7) (by kernel_rfl) rfl (fun K hK => ?as7)
          case as7 =>
            have HK := Lib.hid hK
            clear hK
            go_simp
            refine HK.out _ _ HR2.out.cells.2.2.2.2.1 ?_
            clear HK
            try simp only [Act.put, List.setIfInBounds_toArray, List.set_cons_zero, List.set_cons_succ]
            refine anyT_step (k := 8) (by kernel_rfl) rfl (fun K hK => ?as8)
            case as8 =>
              have HK := Lib.hid hK
              clear hK
              go_simp
              refine HK.out _ _ HR2.out.cells.2.2.2.2.1 ?_
              clear HK
              try simp only [Act.put, List.setIfInBounds_toArray, List.set_cons_zero, List.set_cons_succ]
              refine anyT_step (k := 9) (by kernel_rfl) rfl (fun K hK => ?as9)
              case as9 =>
                have HK := Lib.hid hK
                clear hK
                obtain ⟨⟨u1, k1⟩, kf⟩ := HS2.out.cellAt2 i hil'
                have hne : p ≠ g2 := by omega
                go_simp
                refine HK.out _ _ (Fr.cell (S := fun j => j = g2) (Fr.one w2 g2 (i * 4 + 1) (.string (st (Lib.itoa v)))) HR2.out.cells.2.2.2.2.1 hne) ?_
                clear k1 kf
                clear HK
                try simp only [Act.put, List.setIfInBounds_toArray, List.set_cons_zero, List.set_cons_succ]
                refine anyT_done (by kernel_rfl) ?_
                refine NoPanic.normal ?_
                go_wp2
                refine bodyPost_end (results_none rfl _ _ _) rfl ?_
                exact ⟨rfl, _, HR2.out.fr (Fr.one w2 g2 _ _) hne, HSETV.out w2 HS2.out, (HFW.out.mono (fun _ _ e => e.elim)).trans ((Fr.one w2 g2 _ _).mono (fun q _ e => by subst e; show p ≤ q; omega))⟩
      · have ge : ((st q.1).toList == y.toList) = false := by rw [← HY.out, st_same, decide_eq_false he]
        have HN := Lib.hid (show n ∉ (o.take (i + 1)).map Prod.fst from by
          rw [List.take_add_one, hq, List.map_append, List.mem_append, not_or]
          exact ⟨hn, by simpa using fun e => he e.symm⟩)
        generalize st q.1 = x1 at *
        clear hn he hq
        go_wp2
        go_round
        case rel => exact ⟨i + 1, by go_num, hil, HN.out⟩
        case measure => simp [intOf]; omega
    · obtain rfl : ol = i := by omega
      rw [List.take_of_length_le (by rw [HOL.out]; exact Nat.le_refl _)] at hn
      have HSETV := Lib.hid (setV_new o n v hn)
      clear hn
      go_upto_region 5 with fail
      refine wp_region_noPanic ?_
      refine wp_region_any (by kernel_rfl) (any_of_T (S := Late 13 (fun W' => W'.cell? ⟨p, 4, none⟩ = some (.slice bo ol cap2))) _ _ _ _ ?_)
      change anyT _ _ _ _ _ _ _ _ W.drew
      have aS : ∀ l, Late 13 (fun W' => W'.cell? ⟨p, 4, none⟩ = some (.slice bo ol cap2)) l W.drew := fun l _ => HC4.out
      refine anyT_take (i := 0) (v := .pointer (some ⟨p, 0, none⟩)) (fun W' => W'.cell? ⟨p, 4, none⟩ = some (.slice bo ol cap2)) rfl (by kernel_rfl) (by kernel_rfl) (by kernel_rfl) (fun _ _ _ h => h) (fun _ _ hc hl hS => hS (late_no hc hl (by kernel_rfl))) (fun _ _ => late_dep (by decide)) (Clos.start _) (Or.inl ⟨by kernel_rfl, ?by0⟩) (aS _) (fun ac0 aS0 => ?br0)
      case by0 => (intro W' hSw; go_simp)
      try simp only [Act.put, List.setIfInBounds_toArray, List.set_cons_zero, List.set_cons_succ]
      refine anyT_take (i := 1) (v := .pointer (some ⟨p, 0, none⟩)) (fun W' => W'.cell? ⟨p, 4, none⟩ = some (.slice bo ol cap2)) rfl (by kernel_rfl) (by kernel_rfl) (by kernel_rfl) (fun _ _ _ h => h) (fun _ _ hc hl hS => hS (late_no hc hl (by kernel_rfl))) (fun _ _ => late_dep (by decide)) ac0 (Or.inl ⟨by kernel_rfl, ?by1⟩) aS0 (fun ac1 aS1 => ?br1)
      case by1 => (intro W' hSw; go_simp)
      try simp only [Act.put, List.setIfInBounds_toArray, List.set_cons_zero, List.set_cons_succ]
      refine anyT_take (i := 2) (v := .pointer (some ⟨p, 0, none⟩)) (fun W' => W'.cell? ⟨p, 4, none⟩ = some (.slice bo ol cap2)) rfl (by kernel_rfl) (by kernel_rfl) (by kernel_rfl) (fun _ _ _ h => h) (fun _ _ hc hl hS => hS (late_no hc hl (by kernel_rfl))) (fun _ _ => late_dep (by decide)) ac1 (Or.inl ⟨by kernel_rfl, ?by2⟩) aS1 (fun ac2 aS2 => ?br2)
      case by2 => (intro W' hSw; go_simp)
      try simp only [Act.put, List.setIfInBounds_toArray, List.set_cons_zero, List.set_cons_succ]
      refine anyT_take (i := 3) (v := .pointer (some ⟨p, 4, none⟩)) (fun W' => W'.cell? ⟨p, 4, none⟩ = some (.slice bo ol cap2)) rfl (by kernel_rfl) (by kernel_rfl) (by kernel_rfl) (fun _ _ _ h => h) (fun _ _ hc hl hS => hS (late_no hc hl (by kernel_rfl))) (fun _ _ => late_dep (by decide)) ac2 (Or.inl ⟨by kernel_rfl, ?by3⟩) aS2 (fun ac3 aS3 => ?br3)
      case by3 => (intro W' hSw; go_simp)
      try simp only [Act.put, List.setIfInBounds_toArray, List.set_cons_zero, List.set_cons_succ]
      refine anyT_take (i := 4) (v := .slice bo ol cap2) (fun W' => W'.cell? ⟨p, 4, none⟩ = some (.slice bo ol cap2)) rfl (by kernel_rfl) (by kernel_rfl) (by kernel_rfl) (fun _ _ _ h => h) (fun _ _ hc hl hS => hS (late_no hc hl (by kernel_rfl))) (fun _ _ => late_dep (by decide)) ac3 (Or.inl ⟨by kernel_rfl, ?by4⟩) aS3 (fun ac4 aS4 => ?br4)
      case by4 => (intro W' hSw; go_simp)
      try simp only [Act.put, List.setIfInBounds_toArray, List.set_cons_zero, List.set_cons_succ]
      refine anyT_take (i := 5) (v := .string y) (fun W' => W'.cell? ⟨p, 4, none⟩ = some (.slice bo ol cap2)) rfl (by kernel_rfl) (by kernel_rfl) (by kernel_rfl) (fun _ _ _ h => h) (fun _ _ hc hl hS => hS (late_no hc hl (by kernel_rfl))) (fun _ _ => late_dep (by decide)) ac4 (Or.inl ⟨by kernel_rfl, ?by5⟩) aS4 (fun ac5 aS5 => ?br5)
      case by5 => (intro W' hSw; go_simp)
      try simp only [Act.put, List.setIfInBounds_toArray, List.set_cons_zero, List.set_cons_succ]
      refine anyT_take (i := 6) (v := .int .i64 v) (fun W' => W'.cell? ⟨p, 4, none⟩ = some (.slice bo ol cap2)) rfl (by kernel_rfl) (by kernel_rfl) (by kernel_rfl) (fun _ _ _ h => h) (fun _ _ hc hl hS => hS (late_no hc hl (by kernel_rfl))) (fun _ _ => late_dep (by decide)) ac5 (Or.inl ⟨by kernel_rfl, ?by6⟩) aS5 (fun ac6 aS6 => ?br6)
      case by6 => (intro W' hSw; go_simp)
      try simp only [Act.put, List.setIfInBounds_toArray, List.set_cons_zero, List.set_cons_succ]
      refine anyT_step (k := 7) (by kernel_rfl) rfl (fun K hK => ?bs7)
      case bs7 =>
        have HK := Lib.hid hK
        clear hK
        go_simp
        refine (digits_any v hv _).mono ?_
        rintro e w2 ⟨rfl, hb⟩
        have hF2 := Fr.of_below (S := fun _ => False) hb
        have hR2 : RD w2 p s k d gv (.slice bo ol cap2) form err := by refine RD.fr (S := fun _ => False) ?_ hF2 id; exact H.out
        have hS2 : SetR w2 (p + 1) (.slice bo ol cap2) o := by refine SetR.fr (S := fun _ => False) ?_ hF2 (fun _ _ => id); exact HSV.out
        have HFW := Lib.hid ((Fr.refl (fun _ => False) W).drew.trans hF2)
        have HR2 := Lib.hid hR2
        have HS2 := Lib.hid hS2
        have HSZ := Lib.hid (heap_lt hR2)
        clear hb hF2
        refine HK.out _ _ (fun _ => hR2.cells.2.2.2.2.1) ?_
        clear hR2 hS2
        clear HK
        try simp only [Act.put, List.setIfInBounds_toArray, List.set_cons_zero, List.set_cons_succ]
        refine anyT_step (k := 8) (by kernel_rfl) rfl (fun K hK => ?bs8)
        case bs8 =>
          have HK := Lib.hid hK
          clear hK
          go_simp
          refine HK.out _ _ (fun _ => HR2.out.cells.2.2.2.2.1) ?_
          clear HK
          try simp only [Act.put, List.setIfInBounds_toArray, List.set_cons_zero, List.set_cons_succ]
          refine anyT_step (k := 9) (by kernel_rfl) rfl (fun K hK => ?bs9)
          case bs9 =>
            have HK := Lib.hid hK
            clear hK
            go_simp
            have hR3 := HR2.out.fr ((Fr.refl (fun _ => False) w2).alloc (.cells #[.string y, .string (st (Lib.itoa v)), .bool false, .bool false] 29)) id
            refine HK.out _ _ (fun _ => hR3.cells.2.2.2.2.1) ?_
            clear hR3
            clear HK
            try simp only [Act.put, List.setIfInBounds_toArray, List.set_cons_zero, List.set_cons_succ]
            refine anyT_step (k := 10) (by kernel_rfl) rfl (fun K hK => ?bs10)
            case bs10 =>
              have HK := Lib.hid hK
              clear hK
              have hS3 : (w2.alloc (.cells #[.string y, .string (st (Lib.itoa v)), .bool false, .bool false] 29)).ownsRow (p + 1) 29 4 (.slice bo ol cap2) ol (outC o) := by have := HS2.out.fr ((Fr.refl (fun _ => False) w2).alloc (.cells #[.string y, .string (st (Lib.itoa v)), .bool false, .bool false] 29)) (fun _ _ => id); unfold SetR at this; rw [HOL.out] at this; exact this
              refine step_append_lies _ (by rfl) _ _ 22 (by rfl) (p + 1) 29 i0 _ 4 40 Tryz.underlying22 hi hz0 hz1 hz2 rfl (by decide) (.slice bo ol cap2) ol (outC o) rfl hS3 ⟨w2.heap.size, 0, none⟩ 1 1 [.string y, .string (st (Lib.itoa v)), .bool false, .bool false] rfl rfl (cell_new4 _ _ _ _ _ _) (by intro u hu; simp at hu; rcases hu with rfl | rfl | rfl <;> rfl) (by decide) (by unfold maxLen; omega) (by omega) (by have := HSZ.out; simp; omega) (w2.heap.size + 1) (by simp) ?_
              intro g cap5 w5 hown5 hg5 hat5 hlt5
              have HO5 := Lib.hid hown5
              have HG5 := Lib.hid (((Fr.refl (fun k => (Value.slice bo ol cap2).ownBlock = some k) w2).alloc (.cells #[.string y, .string (st (Lib.itoa v)), .bool false, .bool false] 29)).trans (Fr.grown hg5))
              have HNB := Lib.hid (fun k (e : (Value.slice bo ol cap2).ownBlock = some k) => (ownz_type HS2.out e).1)
              have hR5 := HR2.out.fr HG5.out (fun e => by have := HNB.out _ e; omega)
              have HR5 := Lib.hid hR5
              clear hown5 hg5 hat5 hlt5 hS3
              refine HK.out _ _ (fun _ => hR5.cells.2.2.2.2.1) ?_
              clear hR5
              clear HK
              try simp only [Act.put, List.setIfInBounds_toArray, List.set_cons_zero, List.set_cons_succ]
              refine anyT_step (k := 11) (by kernel_rfl) rfl (fun K hK => ?bs11)
              case bs11 =>
                have HK := Lib.hid hK
                clear hK
                go_simp
                refine HK.out _ _ (fun _ => HR5.out.cells.2.2.2.2.1) ?_
                clear HK
                try simp only [Act.put, List.setIfInBounds_toArray, List.set_cons_zero, List.set_cons_succ]
                refine anyT_step (k := 12) (by kernel_rfl) rfl (fun K hK => ?bs12)
                case bs12 =>
                  have HK := Lib.hid hK
                  clear hK
                  go_simp
                  refine HK.out _ _ (fun _ => HR5.out.cells.2.2.2.2.1) ?_
                  clear HK
                  try simp only [Act.put, List.setIfInBounds_toArray, List.set_cons_zero, List.set_cons_succ]
                  refine anyT_step (k := 13) (by kernel_rfl) rfl (fun K hK => ?bs13)
                  case bs13 =>
                    have HK := Lib.hid hK
                    clear hK
                    have f5 := HR5.out.cells.2.2.2.2.2.2.2 4
                    have e5 := HR5.out.cells.2.2.2.2.1
                    go_simp
                    refine HK.out _ _ (fun h => absurd h (by decide)) ?_
                    clear f5 e5
                    clear HK
                    try simp only [Act.put, List.setIfInBounds_toArray, List.set_cons_zero, List.set_cons_succ]
                    refine anyT_done (by kernel_rfl) ?_
                    refine NoPanic.normal ?_
                    go_wp2
                    refine bodyPost_end (results_none rfl _ _ _) rfl ?_
                    refine ⟨rfl, _, HR5.out.setSet _, ?_, (HFW.out.mono (fun _ _ e => e.elim)).trans ((HG5.out.mono (fun q _ e => by have := HNB.out q e; show p ≤ q; omega)).setCell (p := ⟨p, 4, none⟩) (.inl (Nat.le_refl p)) _)⟩
                    have h6 : SetR w5 (p + 1) (.slice (some ⟨g, 0, none⟩) (ol + 1) cap5) (o ++ [(n, v)]) := by
                      unfold SetR
                      rw [List.length_append, HOL.out, show outC (o ++ [(n, v)]) = outC o ++ [.string (st n), .string (st (Lib.itoa v)), .bool false, .bool false] by simp [outC], HY.out]
                      exact HO5.out
                    rw [HSETV.out]
                    exact h6.fr (Fr.one w5 p 4 _) (fun k hk e => by omega)
end Go.Proofs.YtbmnngliapmgfaaGreatDoor
