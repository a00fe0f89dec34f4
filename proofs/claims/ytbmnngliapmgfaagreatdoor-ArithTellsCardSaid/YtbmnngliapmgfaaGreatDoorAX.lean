/- Contract of the program's texts. -/
import Derived.Test.YtbmnngliapmgfaaGreatDoorAW
import Derived.Lib.LaidTab
import Derived.Lib.AppendIntMem
namespace Go.Proofs.YtbmnngliapmgfaaGreatDoor
open Go.RowKit
set_option linter.unusedVariables false
set_option linter.unusedSimpArgs false
/-- the table that numbers are written by. -/
def Env (W : World) : Prop := Lib.TabIs Tryz.prog W "internal/strconv.uint64pow10" .u64 Lib.pow10Tab
theorem Env.bel {W W' : World} (h : Env W) (hb : Below W.heap.size W W') : Env W' := Lib.tabBelow_of_tabIs h W' hb
theorem grow_below (w : World) (n : Nat) (os : Array Obj) : Below w.heap.size w (Sort.grow (w.drewN n) os) :=
  ⟨rfl, rfl, rfl, by show w.heap.size ≤ (w.heap ++ os).size; rw [Array.size_append]; omega, fun k hk => by show (w.heap ++ os)[k]? = _; rw [Array.getElem?_append_left hk]⟩
def I64 (n : Int) : Prop := -9223372036854775808 ≤ n ∧ n ≤ 9223372036854775807
theorem format_any (n : Int) (h : I64 n) (w : World) (henv : Env w) :
    Calls Tryz.prog 23 #[.int .i64 n, .int .i64 10] w fun e w' => e = .returned (.string (st (Lib.itoa n))) ∧ Below w.heap.size w w' :=
  (Tryz.strconv_FormatInt_10 n h.1 h.2 w henv).mono fun e w' ⟨he, k, os, hw⟩ => ⟨he, by rw [hw]; exact grow_below w k os⟩
def outC (o : Own) : List Value := o.flatMap fun p => [.string (st p.1), .string (st (Lib.itoa p.2)), .bool false, .bool false]
theorem infoVar : (Tryz.prog.info? 29).map (fun i => (i.zero, i.size, i.bytes)) = some (some (.agg #[.string ByteArray.empty, .string ByteArray.empty, .bool false, .bool false]), 4, 40) := by kernel_rfl
theorem cell_new4 (w : World) (a b c d : Value) (t : TypeId) : ∀ j u, [a, b, c, d][j]? = some u → (w.alloc (.cells #[a, b, c, d] t)).cell? ((⟨w.heap.size, 0, none⟩ : Addr).add j) = some u := by
  intro j u hj
  match j, hj with
  | 0, hj => simp at hj; subst hj; simp [Addr.add]
  | 1, hj => simp at hj; subst hj; simp [Addr.add]
  | 2, hj => simp at hj; subst hj; simp [Addr.add]
  | 3, hj => simp at hj; subst hj; simp [Addr.add]
def txRel (W : World) (o : Own) (lv iv : Value) (wr : World) : Prop := ∃ k : Nat, iv = .int .i64 k ∧ k ≤ o.length ∧ wr.ownsRow W.heap.size 29 4 lv k (outC (o.take k)) ∧ Below W.heap.size W wr ∧ Env wr
set_option maxRecDepth 100000 in
set_option maxHeartbeats 4000000 in
theorem texts_any {W : World} {B vb : Nat} {S : Nat → Prop} {g : List (Bs × Bs)} {o : Own} (h : VT W B vb S g o) (henv : Env W) (hr : ∀ p ∈ o, I64 p.2) (hl : o.length ≤ 1000000) :
    Calls Tryz.prog 11 #[.pointer (some ⟨vb, 0, none⟩)] W fun e w' => ∃ lv, e = .returned lv ∧ w'.ownsRow W.heap.size 29 4 lv o.length (outC o) ∧ Below W.heap.size W w' := by
  obtain ⟨gv, ov, h1, h2, h3, h4, -⟩ := h
  have c1 : W.cell? ⟨vb, 1, none⟩ = some ov := by rw [Lib.cell_of_heap h1]; rfl
  obtain ⟨ao, cap, rfl, hcap, hao⟩ := ownz_form h4
  have HA := Lib.hid hao
  have HOV := Lib.hid h4
  have HRG := Lib.hid hr
  have HENV := Lib.hid henv
  obtain ⟨i0, hi, hz0, hz1, hz2⟩ := info_parts infoVar
  clear h1 h2 h3 h4 hao hr henv
  obtain ⟨m, hm⟩ : ∃ m, o.length = m := ⟨_, rfl⟩
  have HM := Lib.hid hm
  rw [hm] at hl hcap c1 HA HOV ⊢
  clear hm
  go_enter Tryz.func11, Tryz.ntmps11
  go_wp2
  clear c1
  go_loopw [3, 11] (fun lv iv wr => txRel W o lv iv wr) (fun _ iv _ => m - (intOf iv).toNat)
  case atStart => exact ⟨0, rfl, Nat.zero_le _, World.ownsRow_nil _ _ _ _, Below.refl _ _, HENV.out⟩
  case round =>
    obtain ⟨k, rfl, hk, hown, hb, henv⟩ := hrel
    rw [HM.out] at hk
    obtain ⟨lo, lcap, rfl, hlcap, -⟩ := ownz_form hown
    by_cases hlt : k < m
    · obtain ⟨gb, rfl⟩ := HA.out (by omega)
      obtain ⟨p, hp⟩ : ∃ p, o[k]? = some p := ⟨o[k]'(by rw [HM.out]; exact hlt), List.getElem?_eq_getElem _⟩
      obtain ⟨a0, a1⟩ := ownC_at o k p hp
      have hF : Fr (fun _ => False) W wr := Fr.of_below hb
      have c0 : wr.cell? ⟨gb, k * 2, none⟩ = some (.string (st p.1)) := hF.cell (by rw [HOV.out.cellAt (k * 2) (by omega)]; exact a0) id
      have c1 : wr.cell? ⟨gb, k * 2 + 1, none⟩ = some (.int .i64 p.2) := hF.cell (by rw [HOV.out.cellAt (k * 2 + 1) (by omega)]; exact a1) id
      have hpr : I64 p.2 := HRG.out p (List.mem_of_getElem? hp)
      have hk63 : (k : Int) < 1000000 := by omega
      have hlt63 : (k : Int) < (m : Int) := by omega
      have hgl := cell_lt c0
      have hwz := hb.size
      have HOUT := Lib.hid (show outC (o.take (k + 1)) = outC (o.take k) ++ [.string (st p.1), .string (st (Lib.itoa p.2)), .bool false, .bool false] by
        rw [List.take_add_one, hp]
        unfold outC
        rw [List.flatMap_append]; rfl)
      have HBW := Lib.hid (show Below wr.heap.size wr (wr.alloc (.cells #[.string (st p.1), .int .i64 p.2] 60)).drew from ((Below.refl _ _).alloc (Nat.le_refl _) _).drew)
      have HX := Lib.hid (show (wr.alloc (.cells #[.string (st p.1), .int .i64 p.2] 60)).drew.cell? ⟨wr.heap.size, 0, none⟩ = some (.string (st p.1)) ∧ (wr.alloc (.cells #[.string (st p.1), .int .i64 p.2] 60)).drew.cell? ⟨wr.heap.size, 1, none⟩ = some (.int .i64 p.2) from by
        have e : (wr.alloc (.cells #[.string (st p.1), .int .i64 p.2] 60)).drew.heap[wr.heap.size]? = some (.cells #[.string (st p.1), .int .i64 p.2] 60 (0, 0)) := heap_alloc_new wr _
        constructor <;> rw [Lib.cell_of_heap e] <;> rfl)
      have HFI := Lib.hid ((format_any p.2 hpr (wr.alloc (.cells #[.string (st p.1), .int .i64 p.2] 60)).drew (henv.bel HBW.out)).mono (show ∀ e w', _ → e = .returned (.string (st (Lib.itoa p.2))) ∧ (w'.cell? ⟨wr.heap.size, 0, none⟩ = some (.string (st p.1)) ∧ w'.cell? ⟨wr.heap.size, 1, none⟩ = some (.int .i64 p.2)) ∧ Below wr.heap.size wr w' ∧ Env w' from by
        rintro e w' ⟨rfl, hb2⟩
        have hsz : (wr.alloc (.cells #[.string (st p.1), .int .i64 p.2] 60)).drew.heap.size = wr.heap.size + 1 := by simp
        rw [hsz] at hb2
        refine ⟨rfl, ⟨(hb2.cell (p := ⟨wr.heap.size, 0, none⟩) (Nat.lt_succ_self _)).trans HX.out.1, (hb2.cell (p := ⟨wr.heap.size, 1, none⟩) (Nat.lt_succ_self _)).trans HX.out.2⟩, HBW.out.trans (hb2.mono (by omega)), (henv.bel HBW.out).bel (by rw [hsz]; exact hb2)⟩))
      have HO4 := Lib.hid (fun (w4 : World) (h4 : Below wr.heap.size wr w4) => (ownz_fr hown (Fr.of_below (S := fun _ => False) h4) (fun _ _ => id)).alloc (.cells #[.string (st p.1), .string (st (Lib.itoa p.2)), .bool false, .bool false] 29))
      have HW4 := Lib.hid (fun (w4 : World) (h4 : Below wr.heap.size wr w4) => show W.heap.size ≤ (w4.alloc (.cells #[.string (st p.1), .string (st (Lib.itoa p.2)), .bool false, .bool false] 29)).heap.size from by have := h4.size; simp; omega)
      have HS7 := Lib.hid (fun (w4 : World) (h4 : w4.cell? ⟨wr.heap.size, 0, none⟩ = some (.string (st p.1)) ∧ w4.cell? ⟨wr.heap.size, 1, none⟩ = some (.int .i64 p.2)) => show (w4.alloc (.cells #[.string (st p.1), .string (st (Lib.itoa p.2)), .bool false, .bool false] 29)).cell? ⟨wr.heap.size, 0, none⟩ = some (.string (st p.1)) ∧ (w4.alloc (.cells #[.string (st p.1), .string (st (Lib.itoa p.2)), .bool false, .bool false] 29)).cell? ⟨wr.heap.size, 1, none⟩ = some (.int .i64 p.2) from
        ⟨((Fr.refl (fun _ => False) w4).alloc _).cell h4.1 id, ((Fr.refl (fun _ => False) w4).alloc _).cell h4.2 id⟩)
      have HS8 := Lib.hid (fun (w4 w5 : World) (hb4 : Below wr.heap.size wr w4) (h4 : w4.cell? ⟨wr.heap.size, 0, none⟩ = some (.string (st p.1)) ∧ w4.cell? ⟨wr.heap.size, 1, none⟩ = some (.int .i64 p.2)) (hg : (w4.alloc (.cells #[.string (st p.1), .string (st (Lib.itoa p.2)), .bool false, .bool false] 29)).grownBy w5 (Value.slice lo k lcap).ownBlock) => show w5.cell? ⟨wr.heap.size, 0, none⟩ = some (.string (st p.1)) ∧ w5.cell? ⟨wr.heap.size, 1, none⟩ = some (.int .i64 p.2) from by
        have f : Fr (fun q => (Value.slice lo k lcap).ownBlock = some q) w4 w5 := ((Fr.refl _ w4).alloc _).trans (Fr.grown hg)
        have hne : ¬ (Value.slice lo k lcap).ownBlock = some wr.heap.size := fun e => by have := (ownz_type hown e).2.1; omega
        exact ⟨f.cell h4.1 hne, f.cell h4.2 hne⟩)
      have HREL := Lib.hid (fun (w4 w5 : World) (v' : Value) (hb4 : Below wr.heap.size wr w4) (he4 : Env w4) (ho : w5.ownsRow W.heap.size 29 4 v' (k + 1) (outC (o.take k) ++ [.string (st p.1), .string (st (Lib.itoa p.2)), .bool false, .bool false])) (hg : (w4.alloc (.cells #[.string (st p.1), .string (st (Lib.itoa p.2)), .bool false, .bool false] 29)).grownBy w5 (Value.slice lo k lcap).ownBlock) => show txRel W o v' (.int .i64 ((k : Int) + 1)) w5 from by
        have f : Fr (fun q => (Value.slice lo k lcap).ownBlock = some q) w4 w5 := ((Fr.refl _ w4).alloc _).trans (Fr.grown hg)
        have hbW : Below W.heap.size W w4 := hb.trans (hb4.mono hb.size)
        have hbe : Below W.heap.size w4 w5 := f.bel (fun q hq => (ownz_type hown hq).1) (Nat.le_trans hb.size hb4.size)
        refine ⟨k + 1, by go_num, by rw [HM.out]; omega, by rw [HOUT.out]; exact ho, hbW.trans hbe, ?_⟩
        exact HENV.out.bel (hbW.trans hbe))
      have HSTR := Lib.hid (show ∀ u ∈ [Value.string (st p.1), .string (st (Lib.itoa p.2)), .bool false, .bool false], u.oneCell' = true by intro u hu; simp at hu; rcases hu with rfl | rfl | rfl <;> rfl)
      clear hown hb henv hp a0 a1 hF hpr HOUT HBW
      generalize st p.1 = x at *
      generalize st (Lib.itoa p.2) = y at *
      generalize p.2 = v at *
      go_upto_region 5 with fail
      refine wp_region_noPanic ?_
      refine wp_region_any (by kernel_rfl) (any_of_T (S := fun _ W' => W'.cell? ⟨wr.heap.size, 0, none⟩ = some (.string x) ∧ W'.cell? ⟨wr.heap.size, 1, none⟩ = some (.int .i64 v)) _ _ _ _ ?_)
      change anyT _ _ _ _ _ _ _ _ (wr.alloc (.cells #[.string x, .int .i64 v] 60)).drew
      have aS : (wr.alloc (.cells #[.string x, .int .i64 v] 60)).drew.cell? ⟨wr.heap.size, 0, none⟩ = some (.string x) ∧ (wr.alloc (.cells #[.string x, .int .i64 v] 60)).drew.cell? ⟨wr.heap.size, 1, none⟩ = some (.int .i64 v) := HX.out
      refine anyT_take (i := 0) (v := .slice lo k lcap) (fun W' => W'.cell? ⟨wr.heap.size, 0, none⟩ = some (.string x) ∧ W'.cell? ⟨wr.heap.size, 1, none⟩ = some (.int .i64 v)) rfl (by kernel_rfl) (by kernel_rfl) (by kernel_rfl) (fun _ _ _ h => h) (fun _ _ _ _ hS => hS) (fun _ _ => Iff.rfl) (Clos.start _) (Or.inl ⟨by kernel_rfl, ?ay0⟩) aS (fun ac0 aS0 => ?ar0)
      case ay0 => (intro W' hSw; obtain ⟨hs0, hs1⟩ := hSw; go_simp)
      try simp only [Act.put, List.setIfInBounds_toArray, List.set_cons_zero, List.set_cons_succ]
      refine anyT_take (i := 1) (v := .pointer (some ⟨wr.heap.size, 0, none⟩)) (fun W' => W'.cell? ⟨wr.heap.size, 0, none⟩ = some (.string x) ∧ W'.cell? ⟨wr.heap.size, 1, none⟩ = some (.int .i64 v)) rfl (by kernel_rfl) (by kernel_rfl) (by kernel_rfl) (fun _ _ _ h => h) (fun _ _ _ _ hS => hS) (fun _ _ => Iff.rfl) ac0 (Or.inl ⟨by kernel_rfl, ?ay1⟩) aS0 (fun ac1 aS1 => ?ar1)
      case ay1 => (intro W' hSw; obtain ⟨hs0, hs1⟩ := hSw; go_simp)
      try simp only [Act.put, List.setIfInBounds_toArray, List.set_cons_zero, List.set_cons_succ]
      refine anyT_take (i := 2) (v := .string x) (fun W' => W'.cell? ⟨wr.heap.size, 0, none⟩ = some (.string x) ∧ W'.cell? ⟨wr.heap.size, 1, none⟩ = some (.int .i64 v)) rfl (by kernel_rfl) (by kernel_rfl) (by kernel_rfl) (fun _ _ _ h => h) (fun _ _ _ _ hS => hS) (fun _ _ => Iff.rfl) ac1 (Or.inl ⟨by kernel_rfl, ?ay2⟩) aS1 (fun ac2 aS2 => ?ar2)
      case ay2 => (intro W' hSw; obtain ⟨hs0, hs1⟩ := hSw; go_simp)
      try simp only [Act.put, List.setIfInBounds_toArray, List.set_cons_zero, List.set_cons_succ]
      refine anyT_take (i := 3) (v := .pointer (some ⟨wr.heap.size, 1, none⟩)) (fun W' => W'.cell? ⟨wr.heap.size, 0, none⟩ = some (.string x) ∧ W'.cell? ⟨wr.heap.size, 1, none⟩ = some (.int .i64 v)) rfl (by kernel_rfl) (by kernel_rfl) (by kernel_rfl) (fun _ _ _ h => h) (fun _ _ _ _ hS => hS) (fun _ _ => Iff.rfl) ac2 (Or.inl ⟨by kernel_rfl, ?ay3⟩) aS2 (fun ac3 aS3 => ?ar3)
      case ay3 => (intro W' hSw; obtain ⟨hs0, hs1⟩ := hSw; go_simp)
      try simp only [Act.put, List.setIfInBounds_toArray, List.set_cons_zero, List.set_cons_succ]
      refine anyT_take (i := 4) (v := .int .i64 v) (fun W' => W'.cell? ⟨wr.heap.size, 0, none⟩ = some (.string x) ∧ W'.cell? ⟨wr.heap.size, 1, none⟩ = some (.int .i64 v)) rfl (by kernel_rfl) (by kernel_rfl) (by kernel_rfl) (fun _ _ _ h => h) (fun _ _ _ _ hS => hS) (fun _ _ => Iff.rfl) ac3 (Or.inl ⟨by kernel_rfl, ?ay4⟩) aS3 (fun ac4 aS4 => ?ar4)
      case ay4 => (intro W' hSw; obtain ⟨hs0, hs1⟩ := hSw; go_simp)
      try simp only [Act.put, List.setIfInBounds_toArray, List.set_cons_zero, List.set_cons_succ]
      refine anyT_step (k := 5) (by kernel_rfl) rfl (fun K hK => ?as5)
      case as5 =>
        have HK := Lib.hid hK
        clear hK
        go_simp
        refine HFI.out.mono ?_
        rintro e w4 ⟨rfl, hS4, hb4, henv4⟩
        have HB4 := Lib.hid hb4
        have HENV4 := Lib.hid henv4
        clear hb4 henv4
        refine HK.out _ _ hS4 ?_
        clear HK
        try simp only [Act.put, List.setIfInBounds_toArray, List.set_cons_zero, List.set_cons_succ]
        refine anyT_step (k := 6) (by kernel_rfl) rfl (fun K hK => ?as6)
        case as6 =>
          have HK := Lib.hid hK
          clear hK
          go_simp
          refine HK.out _ _ hS4 ?_
          clear HK
          try simp only [Act.put, List.setIfInBounds_toArray, List.set_cons_zero, List.set_cons_succ]
          refine anyT_step (k := 7) (by kernel_rfl) rfl (fun K hK => ?as7)
          case as7 =>
            have HK := Lib.hid hK
            clear hK
            go_simp
            have hS7 := HS7.out w4 hS4
            refine HK.out _ _ hS7 ?_
            clear HK
            try simp only [Act.put, List.setIfInBounds_toArray, List.set_cons_zero, List.set_cons_succ]
            refine anyT_step (k := 8) (by kernel_rfl) rfl (fun K hK => ?as8)
            case as8 =>
              have HK := Lib.hid hK
              clear hK
              refine step_append_lies _ (by rfl) _ _ 22 (by rfl) W.heap.size 29 i0 _ 4 40 Tryz.underlying22 hi hz0 hz1 hz2 rfl (by decide) (.slice lo k lcap) k (outC (o.take k)) rfl (HO4.out w4 HB4.out) ⟨w4.heap.size, 0, none⟩ 1 1 [.string x, .string y, .bool false, .bool false] rfl rfl (cell_new4 _ _ _ _ _ _) HSTR.out (by decide) (by unfold maxLen; omega) (by omega) (HW4.out w4 HB4.out) (w4.heap.size + 1) (by simp) ?_
              intro g cap2 w5 hown5 hg5 hat5 hlt5
              have HO5 := Lib.hid hown5
              have HG5 := Lib.hid hg5
              have hS8 := HS8.out w4 w5 HB4.out hS4 hg5
              clear hown5 hg5 hat5 hlt5
              refine HK.out _ _ hS8 ?_
              clear HK
              try simp only [Act.put, List.setIfInBounds_toArray, List.set_cons_zero, List.set_cons_succ]
              refine anyT_step (k := 9) (by kernel_rfl) rfl (fun K hK => ?as9)
              case as9 =>
                have HK := Lib.hid hK
                clear hK
                go_simp
                refine HK.out _ _ hS8 ?_
                clear HK
                try simp only [Act.put, List.setIfInBounds_toArray, List.set_cons_zero, List.set_cons_succ]
                refine anyT_done (by kernel_rfl) ?_
                refine NoPanic.normal ?_
                go_wp2
                go_roundw
                case rel => exact HREL.out w4 w5 _ HB4.out HENV4.out HO5.out HG5.out
                case measure => simp [intOf]; omega
    · have hke : k = m := by omega
      subst hke
      have HR := Lib.hid (show wr.ownsRow W.heap.size 29 4 (.slice lo k lcap) k (outC o) from by rw [List.take_of_length_le (by rw [HM.out]; exact Nat.le_refl _)] at hown; exact hown)
      have HB := Lib.hid hb
      clear hown hb henv
      go_wp2
      go_ret
      exact ⟨_, rfl, HR.out, HB.out⟩
end Go.Proofs.YtbmnngliapmgfaaGreatDoor
