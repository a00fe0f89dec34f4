/- The law ArithTells: the walk. -/
import Derived.Test.YtbmnngliapmgfaaGreatDoorCX
import Derived.Test.YtbmnngliapmgfaaGreatDoorCY
import Derived.Test.YtbmnngliapmgfaaGreatDoorBN
namespace Go.Proofs.YtbmnngliapmgfaaGreatDoor
open Go.RowKit
set_option linter.unusedVariables false
set_option linter.unusedSimpArgs false
/-- a row whose variables may change. -/
def Any4 (W : World) (g n : Nat) : Prop := ∃ cur, W.heap[g]? = some (.cells cur 29 (0, 0)) ∧ n * 4 ≤ cur.size
theorem Any4.of {W : World} {B g n cap : Nat} {xs : List Value} (h : W.ownsRow B 29 4 (.slice (some ⟨g, 0, none⟩) n cap) n xs) : Any4 W g n := by
  rcases h.2 with ⟨h0, _⟩ | ⟨g', cap', cur, hv, _, hg, h1, _, h2, _⟩
  · cases h0
  · injection hv with hv1 hv2 hv3
    injection hv1 with hv1
    injection hv1 with hv1
    subst hv1
    exact ⟨cur, hg, by omega⟩
theorem Any4.fr {S : Nat → Prop} {W W' : World} {g n : Nat} (h : Any4 W g n) (f : Fr S W W') (hs : ¬ S g) : Any4 W' g n := by
  obtain ⟨cur, hg, hs'⟩ := h
  exact ⟨cur, (f.block g (heap_lt hg) hs).trans hg, hs'⟩
theorem Any4.set {W : World} {g n : Nat} (h : Any4 W g n) (o : Nat) (v : Value) : Any4 (W.setCell ⟨g, o, none⟩ v) g n := by
  obtain ⟨cur, hg, hs⟩ := h
  exact ⟨_, heap_set hg o v, by simpa using hs⟩
theorem Any4.at {W : World} {g n : Nat} (h : Any4 W g n) (i : Nat) (hi : i < n) : (∃ u, W.cell? ⟨g, i * 4, none⟩ = some u) ∧ (∃ u, W.cell? ⟨g, i * 4 + 1, none⟩ = some u) ∧ (∃ u, W.cell? ⟨g, i * 4 + 2, none⟩ = some u) ∧ (∃ u, W.cell? ⟨g, i * 4 + 3, none⟩ = some u) ∧ ∀ j, W.frozen? ⟨g, j, none⟩ = false := by
  obtain ⟨cur, hg, hs⟩ := h
  refine ⟨?_, ?_, ?_, ?_, fun j => Lib.frozen_of_heap hg _⟩
  · exact ⟨cur[i * 4]'(by omega), by rw [Lib.cell_of_heap hg]; exact Array.getElem?_eq_getElem (by omega)⟩
  · exact ⟨cur[i * 4 + 1]'(by omega), by rw [Lib.cell_of_heap hg]; exact Array.getElem?_eq_getElem (by omega)⟩
  · exact ⟨cur[i * 4 + 2]'(by omega), by rw [Lib.cell_of_heap hg]; exact Array.getElem?_eq_getElem (by omega)⟩
  · exact ⟨cur[i * 4 + 3]'(by omega), by rw [Lib.cell_of_heap hg]; exact Array.getElem?_eq_getElem (by omega)⟩
def taRel (W : World) (tv : Value) (wr : World) : Prop := ∃ t : Nat, tv = .int .i64 t ∧ t ≤ 2 ∧ Fr (fun _ => False) W wr
def zaRel (W : World) (g n : Nat) (iv : Value) (wr : World) : Prop := ∃ i : Nat, iv = .int .i64 i ∧ i ≤ n ∧ Any4 wr g n ∧ Fr (fun _ => False) W wr
theorem bel_fr {W W' : World} (h : Below W.heap.size W W') : Fr (fun _ => False) W W' := Fr.of_below h
theorem fr_bel {W a b : World} (f : Fr (fun _ => False) a b) (h : Below W.heap.size W a) : Below W.heap.size W b := Fr.below h (Nat.le_refl _) f (fun _ h => h.elim)
set_option maxRecDepth 100000 in
set_option maxHeartbeats 8000000 in
theorem tells_any (s : ByteArray) (ao : Option Addr) (len cap : Nat) (vs : List V4) (hs : s.size ≤ maxLen) (W : World) (henv : Env W) (hr : Rd4 W (.slice ao len cap) vs) (hz : ∀ q ∈ vs, q.v.size ≤ maxLen) :
    Calls Tryz.prog 3 #[.string s, .slice ao len cap] W fun e w' => e = .returned (.bool true) ∧ Below W.heap.size W w' := by
  obtain ⟨m, us, hm, hru, hzu, hor⟩ : ∃ m us, m ≤ 200 ∧ Rd4 W (.slice ao m cap) us ∧ (∀ q ∈ us, q.v.size ≤ maxLen) ∧ ((len ≤ 200 ∧ m = len) ∨ (200 < len ∧ m = 200)) := by
    by_cases h : len ≤ 200
    · exact ⟨len, vs, h, hr, hz, .inl ⟨h, rfl⟩⟩
    · exact ⟨200, vs.take 200, Nat.le_refl _, hr.take 200 (by omega), fun q hq => hz q (List.mem_of_mem_take hq), .inr ⟨by omega, rfl⟩⟩
  have hlc : len ≤ cap ∧ cap ≤ maxLen := by
    obtain ⟨_, _, h, h1, h2, _⟩ := hr
    injection h with e1 e2 e3
    subst e1 e2 e3
    exact ⟨h1, h2⟩
  have hul : us.length = m := by
    obtain ⟨_, _, h, _⟩ := hru
    injection h with e1 e2 e3
    exact e2.symm
  have HU := Lib.hid hru
  have HE := Lib.hid henv
  have HS := Lib.hid (shown_any W henv)
  obtain ⟨⟨rv, re, ro⟩, hvp⟩ : ∃ r, valP (gof us) s.data.toList = r := ⟨_, rfl⟩
  have RV := Lib.hid (fun (w : World) (h : Rd4 w (.slice ao m cap) us) => (show Calls Tryz.prog 5 #[.string s, .slice ao m cap] w (fun e w' => ∃ lv, e = .returned (.tuple #[.int .i64 rv, lv, .int .i64 re]) ∧ Rd4 w' lv (outs ro) ∧ Below w.heap.size w w') from
    (rvalue_any s _ (gof us) w (giv_rd4 h hzu) hs).mono (by
      rintro e w' ⟨lv, rfl, ho, hb⟩
      rw [hvp] at ho ⊢
      exact ⟨lv, rfl, rd4_out ho, hb⟩)))
  have PV := Lib.hid (fun (w : World) (p : Option Addr) (n c : Nat) (h : Rd4 w (.slice p n c) us) (he : Env w) => (show Calls Tryz.prog 6 #[.string s, .slice p n c] w (fun e w' => ∃ lo cp, e = .returned (.tuple #[.int .i64 rv, .slice lo ro.length cp, .int .i64 re]) ∧ w'.ownsRow w.heap.size 29 4 (.slice lo ro.length cp) ro.length (outC ro) ∧ Below w.heap.size w w') from
    (value_any s _ (gof us) w hs (giv_rd4 h hzu) he).mono (by
      rintro e w' ⟨lv, rfl, ho, hb⟩
      rw [hvp] at ho ⊢
      obtain ⟨lo, cp, rfl, -, -⟩ := ownz_form ho
      exact ⟨lo, cp, rfl, ho, hb⟩)))
  have g1 : (((rv : Int) != rv) : Bool) = false := by simp
  have g2 : (((re : Int) != re) : Bool) = false := by simp
  have hmx : maxLen = 9223372036854775807 := rfl
  clear hr hz hru hzu hvp henv
  rcases hor with ⟨hle, rfl⟩ | ⟨hle, rfl⟩
  all_goals
    go_enter Tryz.func3, Tryz.ntmps3
    go_wp2_with (first
      | (go_at_call 4; (with_reducible refine HS.out.mono ?_); rintro e w1 ⟨rfl, hb1⟩; have HB1 := Lib.hid hb1; have HU1 := Lib.hid (HU.out.fr (bel_fr hb1)); clear hb1)
      | (refine wpList_own4 rfl _ _ rfl rfl us _ _ _ hul (by omega) rfl rfl rfl HU1.out ?_; intro G cap2 w2 h2 hb2; have HO2 := Lib.hid h2; have HU2 := Lib.hid (HU1.out.fr (bel_fr hb2)); have HB2 := Lib.hid (bel_next HB1.out hb2); clear h2 hb2)
      | (go_at_call 5; (with_reducible refine (RV.out _ HU2.out).mono ?_); rintro e w3 ⟨lv, rfl, hl, hb3⟩; have HL3 := Lib.hid hl; have HO3 := Lib.hid (HO2.out.fr (bel_fr hb3)); have HU3 := Lib.hid (HU2.out.fr (bel_fr hb3)); have HB3 := Lib.hid (bel_next HB2.out hb3); clear hl hb3))
    go_loopw [10, 11, 12, 13, 14, 15] (fun tv _ _ _ _ _ wr => taRel w3 tv wr) (fun tv _ _ _ _ _ _ => 2 - (intOf tv).toNat)
    case atStart => exact ⟨0, rfl, by omega, Fr.refl _ _⟩
    case round =>
      obtain ⟨t, rfl, ht, hF⟩ := hrel
      have HF := Lib.hid hF
      clear hF
      by_cases ht2 : t < 2
      · go_upto_region 11 with (first
          | (go_at_call 6; (with_reducible refine (PV.out _ _ _ _ (HO3.out.fr HF.out) (HE.out.bel (fr_bel HF.out HB3.out))).mono ?_); rintro e w4 ⟨lo, cp, rfl, ho, hb4⟩; have HR4 := Lib.hid ho; have HF4 := Lib.hid (HF.out.trans (bel_fr hb4)); clear ho hb4)
          | (go_at_call 7; (with_reducible refine (same4_any (outs ro) _ _ _ (rd4_out HR4.out) (HL3.out.fr HF4.out)).mono ?_); rintro e w5 ⟨rfl, hb5⟩; have HR5 := Lib.hid (ownz_fr HR4.out (bel_fr hb5) (fun _ _ => id)); have HF5 := Lib.hid (HF4.out.trans (bel_fr hb5)); clear hb5))
        by_cases h0 : 0 < ro.length
        · have hcb : ro.length ≤ cp ∧ cp ≤ maxLen := by
            obtain ⟨_, _, h, h1, h2, _⟩ := rd4_out HR5.out
            injection h with e1 e2 e3
            rw [outs_len] at h1
            subst e3
            exact ⟨h1, h2⟩
          obtain ⟨ao', cap', hfe, _, hfg⟩ := ownz_form HR5.out
          injection hfe with e1 e2 e3
          subst e1
          obtain ⟨g, rfl⟩ := hfg h0
          have HA := Lib.hid (Any4.of HR5.out)
          have HG := Lib.hid (show w3.heap.size ≤ g from Nat.le_trans HF.out.size (ownz_type HR4.out (k := g) rfl).1)
          clear e2 e3 hfg
          go_wp2
          go_loopw [15] (fun iv wr => zaRel w3 g ro.length iv wr) (fun iv _ => ro.length - (intOf iv).toNat)
          case atStart => exact ⟨0, rfl, Nat.zero_le _, HA.out, HF5.out⟩
          case round =>
            obtain ⟨i, rfl, hi, ha, hF⟩ := hrel
            clear HA
            by_cases hlt : i < ro.length
            · obtain ⟨⟨u0, c0⟩, ⟨u1, c1⟩, ⟨u2, c2⟩, ⟨u3, c3⟩, fz⟩ := ha.at i hlt
              have f0 := fz (i * 4)
              have f1 := fz (i * 4 + 1)
              have f2 := fz (i * 4 + 2)
              have f3 := fz (i * 4 + 3)
              have HA := Lib.hid ha
              have HF6 := Lib.hid hF
              clear ha hF fz
              go_wp2
              go_roundw
              case rel => exact ⟨i + 1, by go_num, hlt, (((HA.out.set _ _).set _ _).set _ _).set _ _, (((HF6.out.setCell (p := ⟨g, _, none⟩) (.inr HG.out) _).setCell (p := ⟨g, _, none⟩) (.inr HG.out) _).setCell (p := ⟨g, _, none⟩) (.inr HG.out) _).setCell (p := ⟨g, _, none⟩) (.inr HG.out) _⟩
              case measure => simp [intOf]; omega
            · obtain rfl : i = ro.length := by omega
              have HF6 := Lib.hid hF
              clear ha hF
              go_wp2
              go_roundw
              case rel => exact ⟨t + 1, by go_num, by omega, HF6.out⟩
              case measure => simp [intOf]; omega
        · have hz : ro.length = 0 := by omega
          rw [hz]
          go_wp2
          go_loopw [15] (fun iv wr => iv = .int .i64 0 ∧ Fr (fun _ => False) w3 wr) (fun iv _ => 0)
          case atStart => exact ⟨rfl, HF5.out⟩
          case round =>
            obtain ⟨rfl, hF⟩ := hrel
            have HF6 := Lib.hid hF
            clear hF
            go_wp2
            go_roundw
            case rel => exact ⟨t + 1, by go_num, by omega, HF6.out⟩
            case measure => simp [intOf]; omega
      · obtain rfl : t = 2 := by omega
        go_wp2_with (first
          | (go_at_call 7; (with_reducible refine (same4_any us _ _ _ (HO3.out.fr HF.out) (HU3.out.fr HF.out)).mono ?_); rintro e w6 ⟨rfl, hb6⟩; have HF6 := Lib.hid (HF.out.trans (bel_fr hb6)); clear hb6))
        go_ret
        exact ⟨rfl, fr_bel HF6.out HB3.out⟩
end Go.Proofs.YtbmnngliapmgfaaGreatDoor
