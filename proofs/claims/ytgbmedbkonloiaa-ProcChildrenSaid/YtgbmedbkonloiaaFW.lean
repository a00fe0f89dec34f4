/- The walk of ProcChildren. -/
import Derived.Test.YtgbmedbkonloiaaFV
namespace Go.Proofs.Ytgbmedbkonloiaa
open Go.RowKit
set_option linter.unusedVariables false
set_option linter.unusedSimpArgs false
theorem mod6 (a : Int) : (∃ n : Nat, a.tmod 6 = n ∧ n ≤ 5) ∨ ∃ n : Nat, a.tmod 6 = -(n : Int) ∧ 1 ≤ n ∧ n ≤ 5 := by
  have h1 := Int.tmod_lt_of_pos a (show (0 : Int) < 6 by decide)
  have h2 := Int.lt_tmod_of_pos a (show (0 : Int) < 6 by decide)
  by_cases h : 0 ≤ a.tmod 6
  · exact .inl ⟨(a.tmod 6).toNat, by omega, by omega⟩
  · exact .inr ⟨(-(a.tmod 6)).toNat, by omega, by omega, by omega⟩
/-- a number's bit, as the walk spells it. -/
def bitC (a : Int) (k : Nat) : Bool := bits .and .i64 (a / 2 ^ k) 1 == 1
def seC (bit : Nat → Bool) (j : Nat) : Int := if bit j = true then 3 + j else 2
def pidsC (k : Nat) : List Int := (List.range k).map fun j : Nat => 3 + (j : Int)
theorem pidsC_len (k : Nat) : (pidsC k).length = k := by simp [pidsC]
theorem pidsC_succ (k : Nat) : pidsC (k + 1) = pidsC k ++ [3 + (k : Int)] := by unfold pidsC; rw [List.range_succ, List.map_append]; rfl
def mkRel (w : World) (T : Nat) (bit : Nat → Bool) (n : Nat) (vv iv : Value) (wr : World) : Prop :=
  ∃ (k : Nat) (ao : Option Addr) (cap : Nat), iv = .int .i64 k ∧ vv = .slice ao k cap ∧ k ≤ n ∧ wr.ownsRow w.heap.size 3 1 (.slice ao k cap) k (intC (pidsC k)) ∧ TK (fun b => (Value.slice ao k cap).ownBlock = some b) w wr T (2 + k) (tC (seC bit) k)
theorem c_next2 (se : Nat → Int) (k : Nat) (hk : k < 5) {x : Int} (hx : se k = x) : tX se k x = tC se (k + 1) := hx ▸ c_next se k hk
theorem own_fr0 {B : Nat} {W W' : World} {e : TypeId} {v : Value} {n : Nat} {xs : List Value} (h : W.ownsRow B e 1 v n xs) (f : Fr (fun k => ¬ v.ownBlock = some k) W W') : W'.ownsRow B e 1 v n xs := own_fr h f fun k hk hn => hn hk
theorem seC_t {bit : Nat → Bool} {j : Nat} (h : bit j = true) : seC bit j = 3 + j := by unfold seC; rw [if_pos h]
theorem seC_f {bit : Nat → Bool} {j : Nat} (h : bit j = false) : seC bit j = 2 := by unfold seC; rw [if_neg (by rw [h]; decide)]
theorem get_kid (se : Nat → Int) (st : Int) (k : Nat) (hk : k < 6) (j : Nat) (hj : j < k) : getV (tE se k st).L (3 + j) = .tuple #[.agg #[.int .i64 (3 + j), .int .i64 1, .int .i64 7, .int .i64 (se j), .int .i64 0, .bool false, .bool false], .bool true] := by
  unfold getV getP
  rw [c_get se st k hk j hj]
  rfl
def gtRel (w : World) (T : Nat) (n : Nat) (vv : Value) (s : TB) (m : Int) (iv : Value) (wr : World) : Prop :=
  ∃ k : Nat, iv = .int .i64 k ∧ k ≤ n ∧ wr.ownsRow w.heap.size 3 1 vv n (intC (pidsC n)) ∧ TK (fun b => vv.ownBlock = some b) w wr T m s
set_option maxHeartbeats 4000000 in
set_option maxRecDepth 100000 in
theorem children_any (a0 a1 a2 : Int) (w : World) (h0 : (Lit.int .i64 a0).wf = true) (h1 : (Lit.int .i64 a1).wf = true) (h2 : (Lit.int .i64 a2).wf = true) :
    Calls Try.prog 6 #[.int .i64 a0, .int .i64 a1, .int .i64 a2] w fun e w' => e = .returned (.bool true) ∧ Below w.heap.size w w' := by
  have g0 := int_wf2 h0
  have HM := mod6 a0
  clear h0 h1 h2
  go_enter Try.func6, Try.ntmps6
  go_wp2_with fail
  refine (shown_any w).mono ?_
  rintro e w1 ⟨rfl, b1⟩
  go_wp2_with fail
  refine (tl_new b1).mono ?_
  rintro e w2 ⟨T, rfl, p2⟩
  have H2 := Lib.hid (tk_fork 1 true (i64_small _ (by decide) (by decide)) (by decide) p2.tk)
  rw [st_a.1, st_a.2] at H2
  clear p2 b1
  go_wp2_with fail
  refine H2.out.mono ?_
  rintro e w3 ⟨rfl, h3, -⟩
  have H3 := Lib.hid (tk_becomes 2 7 (i64_small _ (by decide) (by decide)) (by decide) h3)
  rw [c_start2.1] at H3
  clear h3 H2
  have HH := Lib.hid (fun w4 h4 => tk_leads (w0 := w) (W := w4) (K := fun _ => False) (T := T) (m := 1 + 1) (s := becT (forkT new0 1 true) 2 7) 2 (i64_small _ (by decide) (by decide)) h4)
  rw [c_start, c_start2.2] at HH
  obtain ⟨i0, hi0, hz0, hz1, hz2⟩ := info_int
  rcases HM with ⟨n, hn, hn5⟩ | ⟨n, hn, hn1, hn5⟩
  · have q0 : ¬ (n : Int) < 0 := by omega
    go_wp2_with (first
      | (go_at_call 20; refine H3.out.mono ?_; rintro e w4 ⟨rfl, h4, -⟩)
      | (go_at_call 21; refine (HH.out _ h4).mono ?_; rintro e w5 ⟨rfl, h5, -⟩))
    have H5 := Lib.hid h5
    clear hn q0 h4 h5 H3 HH g0
    go_loopw [11, 12] (fun vv iv wr => mkRel w T (bitC a1) n vv iv wr) (fun _ iv _ => n - (Lib.intOf iv).toNat)
    case atStart =>
      refine ⟨0, none, 0, rfl, rfl, Nat.zero_le _, own_none _ _ _, ?_⟩
      have h := H5.out
      obtain ⟨⟨S, h1, h4⟩, k, l, b⟩ := h
      exact ⟨⟨S, h1, fun b hb => by cases hb⟩, k, l, b⟩
    case round =>
      obtain ⟨k, ao, cap, rfl, rfl, hk, hrow, hT⟩ := hrel
      by_cases hlt : k < n
      · obtain ⟨f1, f2, f3⟩ := c_fork (seC (bitC a1)) k (by omega)
        have hF := tk_fork 2 false (i64_small _ (by decide) (by decide)) (by omega) hT
        rw [f1, f2, f3] at hF
        have HF := Lib.hid hF
        have HROW := Lib.hid hrow
        have i1 : (k : Int) < (n : Int) := by omega
        have j0 : (0 : Int) ≤ (k : Int) := by omega
        have HLD := Lib.hid fun w6 h6 => tk_leads (w0 := w) (W := w6) (K := fun b => (Value.slice ao k cap).ownBlock = some b) (T := T) (m := 2 + k + 1) (s := tX (seC (bitC a1)) k 2) (3 + k) (i64_small _ (by omega) (by omega)) h6
        rw [c_lead _ k (by omega)] at HLD
        clear hF hT f1 f2 f3 hrow
        -- what stands when the number is to be laid down
        have HEND := Lib.hid (show ∀ w7, TK (fun b => (Value.slice ao k cap).ownBlock = some b) w w7 T (2 + (k : Int) + 1) (tC (seC (bitC a1)) (k + 1)) → w7.ownsRow w.heap.size 3 1 (.slice ao k cap) k (intC (pidsC k)) →
            ∀ v' w8, w8.ownsRow w.heap.size 3 1 v' (k + 1) (intC (pidsC k) ++ [.int .i64 (3 + k)]) → (w7.alloc (.cells #[.int .i64 (3 + k)] 3)).grownBy w8 (Value.slice ao k cap).ownBlock → (v'.ownBlock = (Value.slice ao k cap).ownBlock ∨ v'.ownBlock = some (w7.alloc (.cells #[.int .i64 (3 + k)] 3)).heap.size) →
            w8.ownsRow w.heap.size 3 1 v' (k + 1) (intC (pidsC (k + 1))) ∧ TK (fun b => v'.ownBlock = some b) w w8 T (2 + ((k + 1 : Nat) : Int)) (tC (seC (bitC a1)) (k + 1)) from
          fun w7 h7 hr7 v' w8 ho hg hat => by
            refine ⟨?_, ?_⟩
            · rw [pidsC_succ]
              unfold intC at ho ⊢
              rw [List.map_append]
              exact ho
            · have hfr : Fr (fun b => (Value.slice ao k cap).ownBlock = some b) w7 w8 := ((Fr.refl _ w7).alloc _).trans (Fr.grown hg)
              have := h7.other (K' := fun b => v'.ownBlock = some b) hfr (fun b hb => (hr7.lt b hb).1) (fun b hb => ⟨by
                rcases hat with e | e
                · exact .inl (e ▸ hb)
                · rw [e] at hb; cases hb; exact .inr (by simp), (ho.lt b hb).2⟩)
              rw [show (2 + ((k + 1 : Nat) : Int)) = 2 + (k : Int) + 1 by omega]
              exact this)
        cases hb : (bits .and .i64 (a1 / 2 ^ k) 1 == 1)
        · have HS := Lib.hid (seC_f (bit := bitC a1) (j := k) hb)
          go_wp2_with (first
            | (go_at_call 17; refine HF.out.mono ?_; rintro e w7 ⟨rfl, h7, fr7⟩; have hr7 := own_fr0 HROW.out fr7; rw [c_next2 _ k (by omega) HS.out] at h7; have HR7 := Lib.hid hr7; have H7 := Lib.hid h7; clear h7 hr7; go_frame)
            | (refine wpList_append_own_at _ rfl _ _ 41 rfl w.heap.size 3 i0 (.int .i64 0) 1 8 Try.underlying41 hi0 hz0 hz1 hz2 rfl (by decide) (.slice ao k cap) k (intC (pidsC k)) rfl (HR7.out.alloc _) ⟨w7.heap.size, 0, none⟩ 1 1 [.int .i64 (3 + k)] rfl rfl (cell_one_new _ _ _) (by intro x hx; simp at hx; subst hx; rfl) (by unfold maxLen; omega) (by omega) (by have := H7.out.bel.size; simp; omega) ?_
               intro v' w8 hown hgrow hnil hat
               obtain ⟨g', cap2, rfl, -, -⟩ := hown.form (by omega)
               have HE := Lib.hid (HEND.out _ H7.out HR7.out _ w8 hown hgrow hat)
               clear hown hgrow hnil hat
               go_frame))
          go_roundw
          case rel => exact ⟨k + 1, _, _, by go_num, rfl, by omega, HE.out.1, HE.out.2⟩
          case measure => simp [Lib.intOf]; omega
        · have HS := Lib.hid (seC_t (bit := bitC a1) (j := k) hb)
          go_wp2_with (first
            | (go_at_call 17; refine HF.out.mono ?_; rintro e w6 ⟨rfl, h6, fr6⟩; have hr6 := own_fr0 HROW.out fr6; have HR6 := Lib.hid hr6; have HLL := Lib.hid (HLD.out _ h6); clear h6 hr6; go_frame)
            | (go_at_call 21; refine HLL.out.mono ?_; rintro e w7 ⟨rfl, h7, fr7⟩; have hr7 := own_fr0 HR6.out fr7; rw [c_next2 _ k (by omega) HS.out] at h7; have HR7 := Lib.hid hr7; have H7 := Lib.hid h7; clear h7 hr7; go_frame)
            | (refine wpList_append_own_at _ rfl _ _ 41 rfl w.heap.size 3 i0 (.int .i64 0) 1 8 Try.underlying41 hi0 hz0 hz1 hz2 rfl (by decide) (.slice ao k cap) k (intC (pidsC k)) rfl (HR7.out.alloc _) ⟨w7.heap.size, 0, none⟩ 1 1 [.int .i64 (3 + k)] rfl rfl (cell_one_new _ _ _) (by intro x hx; simp at hx; subst hx; rfl) (by unfold maxLen; omega) (by omega) (by have := H7.out.bel.size; simp; omega) ?_
               intro v' w8 hown hgrow hnil hat
               obtain ⟨g', cap2, rfl, -, -⟩ := hown.form (by omega)
               have HE := Lib.hid (HEND.out _ H7.out HR7.out _ w8 hown hgrow hat)
               clear hown hgrow hnil hat
               go_frame))
          go_roundw
          case rel => exact ⟨k + 1, _, _, by go_num, rfl, by omega, HE.out.1, HE.out.2⟩
          case measure => simp [Lib.intOf]; omega
      · have hkn : k = n := by omega
        subst hkn
        have i1 : ¬ (k : Int) < (k : Int) := by omega
        obtain ⟨f1, f2, f3⟩ := c_exit (seC (bitC a1)) a2 k (by omega)
        have hE := tk_exit 2 a2 (i64_small _ (by decide) (by decide)) hT
        rw [f1, f2] at hE
        have HE := Lib.hid hE
        have HROW := Lib.hid hrow
        have HCT := Lib.hid fun w6 h6 => tk_count (w0 := w) (W := w6) (K := fun b => (Value.slice ao k cap).ownBlock = some b) (T := T) (m := 2 + k) (s := tE (seC (bitC a1)) k a2) 7 (by omega) h6
        rw [f3] at HCT
        have j1 : IntKind.i64.wrap ((k : Int) + 1) = (k : Int) + 1 := by rw [IntKind.wrap_i64]; omega
        have j2 : (((k + 1 : Nat) : Int)) = (k : Int) + 1 := by omega
        rw [j2] at HCT
        clear hE hT hrow f1 f2 f3 j2 H5
        go_wp2_with (first
          | (go_at_call 18; refine HE.out.mono ?_; rintro e w6 ⟨rfl, h6, fr6⟩; have HR6 := Lib.hid (own_fr0 HROW.out fr6); have HCC := Lib.hid (HCT.out _ h6); clear h6; go_frame)
          | (go_at_call 13; refine HCC.out.mono ?_; rintro e w7 ⟨rfl, h7, fr7⟩; have HR7 := Lib.hid (own_fr HR6.out fr7 fun _ _ => id); have H7 := Lib.hid h7; clear h7; go_frame))
        go_loopw [15] (fun iv wr => gtRel w T k (.slice ao k cap) (tE (seC (bitC a1)) k a2) (2 + k) iv wr) (fun iv _ => k - (Lib.intOf iv).toNat)
        case atStart => exact ⟨0, rfl, Nat.zero_le _, HR7.out, H7.out⟩
        case round =>
          obtain ⟨j, rfl, hj, hrow, hT⟩ := hrel
          by_cases hjl : j < k
          · obtain ⟨g, cap', hv, hg1, hg2⟩ := hrow.form (by omega)
            cases hv
            have hc : wr.cell? ⟨g, j, none⟩ = some (.int .i64 (3 + j)) := by
              rw [hrow.cellAt j (by omega)]
              unfold intC pidsC
              rw [List.map_map, List.getElem?_map, List.getElem?_range hjl]
              rfl
            have hG := tk_get (3 + j) (i64_small _ (by omega) (by omega)) hT
            rw [get_kid _ _ k (by omega) j hjl] at hG
            have HG := Lib.hid hG
            have HRW := Lib.hid hrow
            have m0 : (0 : Int) ≤ (j : Int) := by omega
            have m1 : (j : Int) < (k : Int) := by omega
            clear hG hT hrow HR7 H7
            cases hb : (bits .and .i64 (a1 / 2 ^ j) 1 == 1)
            · rw [seC_f (bit := bitC a1) (j := j) hb] at HG
              go_wp2_with (go_at_call 11; refine HG.out.mono ?_; rintro e w8 ⟨rfl, h8, fr8⟩; have hc8 := fr8.cell hc id; have HR8 := Lib.hid (own_fr HRW.out fr8 fun _ _ => id); have H8 := Lib.hid h8; clear h8; go_frame)
              go_roundw
              case rel => exact ⟨j + 1, by go_num, by omega, HR8.out.alloc _, H8.out.fresh ((Fr.refl _ _).alloc _)⟩
              case measure => simp [Lib.intOf]; omega
            · rw [seC_t (bit := bitC a1) (j := j) hb] at HG
              go_wp2_with (go_at_call 11; refine HG.out.mono ?_; rintro e w8 ⟨rfl, h8, fr8⟩; have hc8 := fr8.cell hc id; have hg8 := Nat.lt_of_lt_of_le hg2 fr8.size; have HR8 := Lib.hid (own_fr HRW.out fr8 fun _ _ => id); have H8 := Lib.hid h8; clear h8; go_frame)
              go_roundw
              case rel => exact ⟨j + 1, by go_num, by omega, HR8.out.alloc _, H8.out.fresh ((Fr.refl _ _).alloc _)⟩
              case measure => simp [Lib.intOf]; omega
          · have hjk : j = k := by omega
            subst hjk
            have m1 : ¬ (j : Int) < (j : Int) := by omega
            obtain ⟨f1, f2, f3, f4⟩ := c_wait (seC (bitC a1)) a2 j (by omega)
            have hW := tk_wait 1 0 (i64_small _ (by decide) (by decide)) (by omega) hT
            rw [f1, f2] at hW
            have HW := Lib.hid hW
            have HX := Lib.hid fun w9 h9 => tk_wait (w0 := w) (W := w9) (K := fun b => (Value.slice ao j cap).ownBlock = some b) (T := T) (m := 2 + j) (s := tZ (seC (bitC a1)) j) 1 2 (i64_small _ (by decide) (by decide)) (by omega) h9
            rw [f3] at HX
            have HY := Lib.hid fun w9 h9 => tk_count (w0 := w) (W := w9) (K := fun b => (Value.slice ao j cap).ownBlock = some b) (T := T) (m := 2 + j) (s := waitT (tZ (seC (bitC a1)) j) 1 2) 7 (by omega) h9
            rw [f4] at HY
            unfold w3V at HW HX
            clear hW hT f1 f2 f3 f4 hrow HR7 H7
            go_wp2_with fail
            refine HW.out.mono ?_
            rintro e w8 ⟨rfl, h8, -⟩
            have HXX := Lib.hid (HX.out _ h8)
            clear h8
            go_wp2_with fail
            refine HXX.out.mono ?_
            rintro e w9 ⟨rfl, h9, -⟩
            have HYY := Lib.hid (HY.out _ h9)
            clear h9
            go_wp2_with (go_at_call 13; refine HYY.out.mono ?_; rintro e w10 ⟨rfl, h10, -⟩)
            go_ret
            exact ⟨rfl, h10.bel⟩
  · have q0 : ¬ (0 : Int) ≤ -(n : Int) := by omega
    have q1 : IntKind.i64.wrap (n : Int) = n := by rw [IntKind.wrap_i64]; omega
    go_wp2_with (first
      | (go_at_call 20; refine H3.out.mono ?_; rintro e w4 ⟨rfl, h4, -⟩)
      | (go_at_call 21; refine (HH.out _ h4).mono ?_; rintro e w5 ⟨rfl, h5, -⟩))
    have H5 := Lib.hid h5
    clear hn q0 q1 h4 h5 H3 HH g0
    go_loopw [11, 12] (fun vv iv wr => mkRel w T (bitC a1) n vv iv wr) (fun _ iv _ => n - (Lib.intOf iv).toNat)
    case atStart =>
      refine ⟨0, none, 0, rfl, rfl, Nat.zero_le _, own_none _ _ _, ?_⟩
      have h := H5.out
      obtain ⟨⟨S, h1, h4⟩, k, l, b⟩ := h
      exact ⟨⟨S, h1, fun b hb => by cases hb⟩, k, l, b⟩
    case round =>
      obtain ⟨k, ao, cap, rfl, rfl, hk, hrow, hT⟩ := hrel
      by_cases hlt : k < n
      · obtain ⟨f1, f2, f3⟩ := c_fork (seC (bitC a1)) k (by omega)
        have hF := tk_fork 2 false (i64_small _ (by decide) (by decide)) (by omega) hT
        rw [f1, f2, f3] at hF
        have HF := Lib.hid hF
        have HROW := Lib.hid hrow
        have i1 : (k : Int) < (n : Int) := by omega
        have j0 : (0 : Int) ≤ (k : Int) := by omega
        have HLD := Lib.hid fun w6 h6 => tk_leads (w0 := w) (W := w6) (K := fun b => (Value.slice ao k cap).ownBlock = some b) (T := T) (m := 2 + k + 1) (s := tX (seC (bitC a1)) k 2) (3 + k) (i64_small _ (by omega) (by omega)) h6
        rw [c_lead _ k (by omega)] at HLD
        clear hF hT f1 f2 f3 hrow
        -- what stands when the number is to be laid down
        have HEND := Lib.hid (show ∀ w7, TK (fun b => (Value.slice ao k cap).ownBlock = some b) w w7 T (2 + (k : Int) + 1) (tC (seC (bitC a1)) (k + 1)) → w7.ownsRow w.heap.size 3 1 (.slice ao k cap) k (intC (pidsC k)) →
            ∀ v' w8, w8.ownsRow w.heap.size 3 1 v' (k + 1) (intC (pidsC k) ++ [.int .i64 (3 + k)]) → (w7.alloc (.cells #[.int .i64 (3 + k)] 3)).grownBy w8 (Value.slice ao k cap).ownBlock → (v'.ownBlock = (Value.slice ao k cap).ownBlock ∨ v'.ownBlock = some (w7.alloc (.cells #[.int .i64 (3 + k)] 3)).heap.size) →
            w8.ownsRow w.heap.size 3 1 v' (k + 1) (intC (pidsC (k + 1))) ∧ TK (fun b => v'.ownBlock = some b) w w8 T (2 + ((k + 1 : Nat) : Int)) (tC (seC (bitC a1)) (k + 1)) from
          fun w7 h7 hr7 v' w8 ho hg hat => by
            refine ⟨?_, ?_⟩
            · rw [pidsC_succ]
              unfold intC at ho ⊢
              rw [List.map_append]
              exact ho
            · have hfr : Fr (fun b => (Value.slice ao k cap).ownBlock = some b) w7 w8 := ((Fr.refl _ w7).alloc _).trans (Fr.grown hg)
              have := h7.other (K' := fun b => v'.ownBlock = some b) hfr (fun b hb => (hr7.lt b hb).1) (fun b hb => ⟨by
                rcases hat with e | e
                · exact .inl (e ▸ hb)
                · rw [e] at hb; cases hb; exact .inr (by simp), (ho.lt b hb).2⟩)
              rw [show (2 + ((k + 1 : Nat) : Int)) = 2 + (k : Int) + 1 by omega]
              exact this)
        cases hb : (bits .and .i64 (a1 / 2 ^ k) 1 == 1)
        · have HS := Lib.hid (seC_f (bit := bitC a1) (j := k) hb)
          go_wp2_with (first
            | (go_at_call 17; refine HF.out.mono ?_; rintro e w7 ⟨rfl, h7, fr7⟩; have hr7 := own_fr0 HROW.out fr7; rw [c_next2 _ k (by omega) HS.out] at h7; have HR7 := Lib.hid hr7; have H7 := Lib.hid h7; clear h7 hr7; go_frame)
            | (refine wpList_append_own_at _ rfl _ _ 41 rfl w.heap.size 3 i0 (.int .i64 0) 1 8 Try.underlying41 hi0 hz0 hz1 hz2 rfl (by decide) (.slice ao k cap) k (intC (pidsC k)) rfl (HR7.out.alloc _) ⟨w7.heap.size, 0, none⟩ 1 1 [.int .i64 (3 + k)] rfl rfl (cell_one_new _ _ _) (by intro x hx; simp at hx; subst hx; rfl) (by unfold maxLen; omega) (by omega) (by have := H7.out.bel.size; simp; omega) ?_
               intro v' w8 hown hgrow hnil hat
               obtain ⟨g', cap2, rfl, -, -⟩ := hown.form (by omega)
               have HE := Lib.hid (HEND.out _ H7.out HR7.out _ w8 hown hgrow hat)
               clear hown hgrow hnil hat
               go_frame))
          go_roundw
          case rel => exact ⟨k + 1, _, _, by go_num, rfl, by omega, HE.out.1, HE.out.2⟩
          case measure => simp [Lib.intOf]; omega
        · have HS := Lib.hid (seC_t (bit := bitC a1) (j := k) hb)
          go_wp2_with (first
            | (go_at_call 17; refine HF.out.mono ?_; rintro e w6 ⟨rfl, h6, fr6⟩; have hr6 := own_fr0 HROW.out fr6; have HR6 := Lib.hid hr6; have HLL := Lib.hid (HLD.out _ h6); clear h6 hr6; go_frame)
            | (go_at_call 21; refine HLL.out.mono ?_; rintro e w7 ⟨rfl, h7, fr7⟩; have hr7 := own_fr0 HR6.out fr7; rw [c_next2 _ k (by omega) HS.out] at h7; have HR7 := Lib.hid hr7; have H7 := Lib.hid h7; clear h7 hr7; go_frame)
            | (refine wpList_append_own_at _ rfl _ _ 41 rfl w.heap.size 3 i0 (.int .i64 0) 1 8 Try.underlying41 hi0 hz0 hz1 hz2 rfl (by decide) (.slice ao k cap) k (intC (pidsC k)) rfl (HR7.out.alloc _) ⟨w7.heap.size, 0, none⟩ 1 1 [.int .i64 (3 + k)] rfl rfl (cell_one_new _ _ _) (by intro x hx; simp at hx; subst hx; rfl) (by unfold maxLen; omega) (by omega) (by have := H7.out.bel.size; simp; omega) ?_
               intro v' w8 hown hgrow hnil hat
               obtain ⟨g', cap2, rfl, -, -⟩ := hown.form (by omega)
               have HE := Lib.hid (HEND.out _ H7.out HR7.out _ w8 hown hgrow hat)
               clear hown hgrow hnil hat
               go_frame))
          go_roundw
          case rel => exact ⟨k + 1, _, _, by go_num, rfl, by omega, HE.out.1, HE.out.2⟩
          case measure => simp [Lib.intOf]; omega
      · have hkn : k = n := by omega
        subst hkn
        have i1 : ¬ (k : Int) < (k : Int) := by omega
        obtain ⟨f1, f2, f3⟩ := c_exit (seC (bitC a1)) a2 k (by omega)
        have hE := tk_exit 2 a2 (i64_small _ (by decide) (by decide)) hT
        rw [f1, f2] at hE
        have HE := Lib.hid hE
        have HROW := Lib.hid hrow
        have HCT := Lib.hid fun w6 h6 => tk_count (w0 := w) (W := w6) (K := fun b => (Value.slice ao k cap).ownBlock = some b) (T := T) (m := 2 + k) (s := tE (seC (bitC a1)) k a2) 7 (by omega) h6
        rw [f3] at HCT
        have j1 : IntKind.i64.wrap ((k : Int) + 1) = (k : Int) + 1 := by rw [IntKind.wrap_i64]; omega
        have j2 : (((k + 1 : Nat) : Int)) = (k : Int) + 1 := by omega
        rw [j2] at HCT
        clear hE hT hrow f1 f2 f3 j2 H5
        go_wp2_with (first
          | (go_at_call 18; refine HE.out.mono ?_; rintro e w6 ⟨rfl, h6, fr6⟩; have HR6 := Lib.hid (own_fr0 HROW.out fr6); have HCC := Lib.hid (HCT.out _ h6); clear h6; go_frame)
          | (go_at_call 13; refine HCC.out.mono ?_; rintro e w7 ⟨rfl, h7, fr7⟩; have HR7 := Lib.hid (own_fr HR6.out fr7 fun _ _ => id); have H7 := Lib.hid h7; clear h7; go_frame))
        go_loopw [15] (fun iv wr => gtRel w T k (.slice ao k cap) (tE (seC (bitC a1)) k a2) (2 + k) iv wr) (fun iv _ => k - (Lib.intOf iv).toNat)
        case atStart => exact ⟨0, rfl, Nat.zero_le _, HR7.out, H7.out⟩
        case round =>
          obtain ⟨j, rfl, hj, hrow, hT⟩ := hrel
          by_cases hjl : j < k
          · obtain ⟨g, cap', hv, hg1, hg2⟩ := hrow.form (by omega)
            cases hv
            have hc : wr.cell? ⟨g, j, none⟩ = some (.int .i64 (3 + j)) := by
              rw [hrow.cellAt j (by omega)]
              unfold intC pidsC
              rw [List.map_map, List.getElem?_map, List.getElem?_range hjl]
              rfl
            have hG := tk_get (3 + j) (i64_small _ (by omega) (by omega)) hT
            rw [get_kid _ _ k (by omega) j hjl] at hG
            have HG := Lib.hid hG
            have HRW := Lib.hid hrow
            have m0 : (0 : Int) ≤ (j : Int) := by omega
            have m1 : (j : Int) < (k : Int) := by omega
            clear hG hT hrow HR7 H7
            cases hb : (bits .and .i64 (a1 / 2 ^ j) 1 == 1)
            · rw [seC_f (bit := bitC a1) (j := j) hb] at HG
              go_wp2_with (go_at_call 11; refine HG.out.mono ?_; rintro e w8 ⟨rfl, h8, fr8⟩; have hc8 := fr8.cell hc id; have HR8 := Lib.hid (own_fr HRW.out fr8 fun _ _ => id); have H8 := Lib.hid h8; clear h8; go_frame)
              go_roundw
              case rel => exact ⟨j + 1, by go_num, by omega, HR8.out.alloc _, H8.out.fresh ((Fr.refl _ _).alloc _)⟩
              case measure => simp [Lib.intOf]; omega
            · rw [seC_t (bit := bitC a1) (j := j) hb] at HG
              go_wp2_with (go_at_call 11; refine HG.out.mono ?_; rintro e w8 ⟨rfl, h8, fr8⟩; have hc8 := fr8.cell hc id; have hg8 := Nat.lt_of_lt_of_le hg2 fr8.size; have HR8 := Lib.hid (own_fr HRW.out fr8 fun _ _ => id); have H8 := Lib.hid h8; clear h8; go_frame)
              go_roundw
              case rel => exact ⟨j + 1, by go_num, by omega, HR8.out.alloc _, H8.out.fresh ((Fr.refl _ _).alloc _)⟩
              case measure => simp [Lib.intOf]; omega
          · have hjk : j = k := by omega
            subst hjk
            have m1 : ¬ (j : Int) < (j : Int) := by omega
            obtain ⟨f1, f2, f3, f4⟩ := c_wait (seC (bitC a1)) a2 j (by omega)
            have hW := tk_wait 1 0 (i64_small _ (by decide) (by decide)) (by omega) hT
            rw [f1, f2] at hW
            have HW := Lib.hid hW
            have HX := Lib.hid fun w9 h9 => tk_wait (w0 := w) (W := w9) (K := fun b => (Value.slice ao j cap).ownBlock = some b) (T := T) (m := 2 + j) (s := tZ (seC (bitC a1)) j) 1 2 (i64_small _ (by decide) (by decide)) (by omega) h9
            rw [f3] at HX
            have HY := Lib.hid fun w9 h9 => tk_count (w0 := w) (W := w9) (K := fun b => (Value.slice ao j cap).ownBlock = some b) (T := T) (m := 2 + j) (s := waitT (tZ (seC (bitC a1)) j) 1 2) 7 (by omega) h9
            rw [f4] at HY
            unfold w3V at HW HX
            clear hW hT f1 f2 f3 f4 hrow HR7 H7
            go_wp2_with fail
            refine HW.out.mono ?_
            rintro e w8 ⟨rfl, h8, -⟩
            have HXX := Lib.hid (HX.out _ h8)
            clear h8
            go_wp2_with fail
            refine HXX.out.mono ?_
            rintro e w9 ⟨rfl, h9, -⟩
            have HYY := Lib.hid (HY.out _ h9)
            clear h9
            go_wp2_with (go_at_call 13; refine HYY.out.mono ?_; rintro e w10 ⟨rfl, h10, -⟩)
            go_ret
            exact ⟨rfl, h10.bel⟩
end Go.Proofs.Ytgbmedbkonloiaa
