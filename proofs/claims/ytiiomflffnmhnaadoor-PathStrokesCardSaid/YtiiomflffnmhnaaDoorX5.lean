/- The walk of the law PathStrokes. -/
import Derived.Test.YtiiomflffnmhnaaDoorX3
import Derived.Test.YtiiomflffnmhnaaDoorS6
import Derived.Deep.RegionHeld3
import Derived.Deep.DrawnRows
import Derived.BigRegion
import Derived.Laws.BitsAllLaws
namespace Go.Proofs.YtiiomflffnmhnaaDoor
open Go.RowKit Go.Shelf
attribute [local go_sem ↓] Go.wp_at_zero Go.wp_at_succ

/-- a slice of texts, and one of numbers, that came in. -/
def InStrs (w : World) (p : Option Addr) (len : Nat) (ss : List ByteArray) : Prop :=
  ss.length = len ∧ ∀ j x, ss[j]? = some x → ∃ b off, p = some ⟨b, off, none⟩ ∧ w.cell? ⟨b, off + j, none⟩ = some (.string x) ∧ x.size ≤ maxLen
def InInts (w : World) (p : Option Addr) (len : Nat) (zs : List Int) : Prop :=
  zs.length = len ∧ ∀ j x, zs[j]? = some x → ∃ b off, p = some ⟨b, off, none⟩ ∧ w.cell? ⟨b, off + j, none⟩ = some (.int .i64 x)
def stRel (abs : Bool) (B : Nat) (w : World) (len : Nat) (sv nv iv : Value) (wr : World) : Prop :=
  ∃ (i : Nat) (t : ByteArray) (ns : List (List UInt8)), i ≤ 9 ∧ i ≤ len ∧ iv = .int .i64 i ∧ sv = .string t ∧ ns.length ≤ i ∧ Good abs t.data.toList ns ∧ wr.ownsRow B 9 1 nv ns.length (ns.map strV) ∧ Below B w wr
theorem alloc_below (W : World) (o : Obj) : Below W.heap.size W (W.alloc o) := (Below.refl _ _).alloc (Nat.le_refl _) _
theorem fin_rd {B : Nat} {W w2 : World} {v : Value} {ns : List (List UInt8)} (hown : W.ownsRow B 9 1 v ns.length (ns.map strV)) (hb2 : Below W.heap.size W w2) (o : Obj) : Rd (w2.alloc o) v ns :=
  ((Rd.of_row hown).below hb2).below (alloc_below _ _)
theorem fin_rd2 {B n cap : Nat} {w2 : World} {p : Option Addr} {ns : List (List UInt8)} (hr : Hid (w2.ownsRow B 9 1 (.slice p n cap) n (ns.map strV))) (hn : ns.length = n) (o : Obj) : Rd (w2.alloc o) (.slice p n cap) ns := by
  subst hn; exact (Rd.of_row hr.out).below (alloc_below _ _)
theorem fin_below {B : Nat} {w W w2 : World} (hB : w.heap.size = B) (hbel : Below B w W) (hb2 : Below W.heap.size W w2) (o : Obj) : Below B w (w2.alloc o) := by
  subst hB
  exact (hbel.trans (hb2.mono hbel.size)).alloc (Nat.le_trans hbel.size hb2.size) o
theorem newsC (W : World) (o : Obj) (v : Value) : ∀ j u, ([v] : List Value)[j]? = some u → ((W.alloc o).alloc (.cells #[v] 9)).drew.cell? ((⟨W.heap.size + 1, 0, none⟩ : Addr).add j) = some u := by
  intro j u hj
  match j, hj with
  | 0, hj =>
    simp at hj
    subst hj
    simp [Addr.add]
def gapB : Nat → ByteArray
  | 0 => ⟨#[47]⟩
  | 1 => ⟨#[47, 47]⟩
  | 2 => ⟨#[47, 46, 47]⟩
  | _ => ⟨#[47, 46, 47, 47, 46, 47]⟩
theorem gap_str (t x : ByteArray) (k : Nat) : (t ++ gapB k ++ x).data.toList = t.data.toList ++ gapI k ++ 47 :: x.data.toList := by
  rw [app_str, app_str]
  unfold gapB gapI
  split <;> simp
theorem st_step {abs : Bool} {B len i : Nat} {w wr w1 w3 : World} {t x : ByteArray} {ns : List (List UInt8)} {v v' : Value} (k : Nat) (hi9 : i < 9) (hil : i < len) (hnl : ns.length ≤ i) (hg : Hid (Good abs t.data.toList ns)) (hn : Hid (nameB x.data.toList = true))
    (hlen : (t ++ gapB k ++ x).size ≤ 128) (hB : w.heap.size = B) (hown : wr.ownsRow B 9 1 v ns.length (ns.map strV)) (hbel : Below B w wr) (h1 : Below wr.heap.size wr w1)
    (hown' : w3.ownsRow B 9 1 v' (ns.length + 1) (ns.map strV ++ [.string x])) (hgrow : w1.grownBy w3 v.ownBlock) : stRel abs B w len (.string (t ++ gapB k ++ x)) v' (.int .i64 ((i : Int) + 1)) w3 := by
  refine ⟨i + 1, t ++ gapB k ++ x, ns ++ [x.data.toList], by omega, by omega, by go_num, rfl, by simp; omega, ?_, ?_, ?_⟩
  · rw [gap_str]
    exact hg.out.step k hn.out (by rw [← gap_str, size_len]; exact hlen)
  · rw [List.length_append, List.map_append]; exact hown'
  · subst hB
    have hb1 : Below w.heap.size w w1 := hbel.trans (h1.mono hbel.size)
    exact hb1.grown hgrow hb1.size (fun k e => (hown.lt k e).1)
set_option linter.unusedVariables false in
set_option maxRecDepth 100000 in
set_option maxHeartbeats 3000000 in
theorem strokes_walk (p : Option Addr) (len cap : Nat) (ss : List ByteArray) (q : Option Addr) (glen gcap : Nat) (zs : List Int) (abs : Bool) (w : World)
    (hl : InStrs w p len ss) (hg : InInts w q glen zs) (hlm : len ≤ maxLen) (hgm : glen ≤ maxLen) :
    Calls Tryd.prog 7 #[.slice p len cap, .slice q glen gcap, .bool abs] w fun e w' => e = .returned (.bool true) ∧ Below w.heap.size w w' := by
  obtain ⟨B, hB⟩ : ∃ B, w.heap.size = B := ⟨_, rfl⟩
  obtain ⟨i0, hi, hz0, hz1, hz2⟩ := info_parts Tryd.info9
  unfold maxLen at hlm hgm
  have HB := Lib.hid hB
  have HL := Lib.hid hl
  have HG := Lib.hid hg
  clear hB hl hg
  cases abs
  · go_enter Tryd.func7, Tryd.ntmps7
    go_wp2_with (go_at_call 10; refine (shown_any _).mono ?_; rintro e w1 ⟨rfl, hb0⟩)
    rw [HB.out] at hb0
    go_loopw [8, 9, 10] (fun sv nv iv wr => stRel false B w len sv nv iv wr) (fun _ _ iv _ => 9 - (intOf iv).toNat)
    case atStart => exact ⟨0, ⟨#[46]⟩, [], by decide, Nat.zero_le _, rfl, rfl, Nat.le_refl _, good_dot, World.ownsRow_nil _ _ _ _, hb0⟩
    case round =>
      obtain ⟨i, t, ns, hi9, hil, rfl, rfl, hnl, hgood, hown, hbel⟩ := hrel
      have hsz := hbel.size
      rw [HB.out] at hsz
      have htl : t.size ≤ 128 := by have := hgood.len; rw [size_len] at this; exact this
      obtain ⟨g1, g2, g3⟩ := hgood.split
      obtain ⟨dd, hdd⟩ : ∃ dd, splDir t.data.toList = dd := ⟨_, rfl⟩
      have H1 := Lib.hid (fun w : World => split_of t (by unfold maxLen; omega) 0 ns false dd ns.length g1 g2 rfl g3 hdd w)
      have Hg := Lib.hid hgood
      clear hgood g1 g2 g3 hdd
      by_cases hlt : i < len ∧ i < 9
      · obtain ⟨x, hx⟩ : ∃ x, ss[i]? = some x := ⟨_, List.getElem?_eq_getElem (by rw [HL.out.1]; exact hlt.1)⟩
        obtain ⟨b, off, rfl, hc, hxm⟩ := HL.out.2 i x hx
        have hbB : b < w.heap.size := cell_lt hc
        have hc' : wr.cell? ⟨b, off + i, none⟩ = some (.string x) := (hbel.cell (p := ⟨b, off + i, none⟩) (by show b < B; have := HB.out; omega)).trans hc
        have hbw : b < wr.heap.size := by have := HB.out; omega
        have h1 := hlt.1
        have h2 := hlt.2
        clear hlt hx hc
        cases hnb : nameB x.data.toList
        · have Hnb := Lib.hid hnb
          clear hnb
          go_wp2_with (go_at_call 16; refine (name_any x _).mono ?_; rintro e w' ⟨rfl, rfl⟩; rw [Hnb.out])
          go_roundw
          case rel => exact ⟨i + 1, t, ns, by omega, by omega, by go_num, rfl, by omega, Hg.out, hown, hbel⟩
          case measure => simp [intOf]; omega
        · have Hnb := Lib.hid hnb
          have hx14 : x.size ≤ 14 := by have := (name_parts hnb).2.1; rw [size_len] at this; exact this
          clear hnb
          by_cases hgl : i < glen
          · obtain ⟨z, hz⟩ : ∃ z, zs[i]? = some z := ⟨_, List.getElem?_eq_getElem (by rw [HG.out.1]; exact hgl)⟩
            obtain ⟨gb, goff, rfl, gc⟩ := HG.out.2 i z hz
            have gc' : wr.cell? ⟨gb, goff + i, none⟩ = some (.int .i64 z) := (hbel.cell (p := ⟨gb, goff + i, none⟩) (by show gb < B; have := HB.out; have := cell_lt gc; omega)).trans gc
            have hgw : gb < wr.heap.size := cell_lt gc'
            clear gc hz
            obtain ⟨kk, hkk, hk3⟩ := and_nat z 3 (by decide)
            rcases (by omega : kk = 0 ∨ kk = 1 ∨ kk = 2 ∨ kk = 3) with rfl | rfl | rfl | rfl
            · have hk : bits .and .i64 z 3 = 0 := hk3
              clear hk3 hkk
              by_cases hbig : 128 < t.size + 1 + x.size
              · go_wp2_with (go_at_call 16; refine (name_any x _).mono ?_; rintro e w' ⟨rfl, rfl⟩; rw [Hnb.out])
                go_region
                go_wp2_with fail
                refine (H1.out _).mono ?_
                rintro e w2 ⟨pp, cap2, rfl, hr2, hb2⟩
                go_wp2_with fail
                refine (same_any _ _ ns ns _ (fin_rd2 hr2 rfl _) (fin_rd ((hown.alloc _).drew) hb2 _)).mono ?_
                rintro e w3 ⟨rfl, nd, rfl⟩
                rw [decide_eq_true rfl]
                have d0 := (Blk.new w2 29 #[.bool false, .slice pp ns.length cap2, .bool dd]).cell 0
                simp only [List.getElem?_toArray, List.getElem?_cons_zero] at d0
                go_wp2
                go_ret
                exact ⟨rfl, by rw [HB.out]; exact below_drewN (fin_below HB.out ((hbel.alloc hsz _).drew) hb2 _) nd⟩
              · go_wp2_with (go_at_call 16; refine (name_any x _).mono ?_; rintro e w' ⟨rfl, rfl⟩; rw [Hnb.out])
                go_region
                go_wp2_with (at_builtin; refine wpList_append_own _ rfl _ _ 23 rfl B 9 i0 (.string ByteArray.empty) 1 16 Tryd.underlying23 hi hz0 hz1 hz2 rfl (by decide) _ _ _ rfl (((hown.alloc _).alloc _).drew) ⟨wr.heap.size + 1, 0, none⟩ 1 1 [.string x] rfl rfl (newsC wr _ _) (by simp [Value.oneCell']) (by unfold maxLen; omega) (by omega) (by simp; omega) ?_; intro v' w3 hown' hgrow _; have R := st_step 0 h2 h1 hnl Hg Hnb (by rw [ByteArray.size_append, ByteArray.size_append]; show t.size + 1 + x.size ≤ 128; omega) HB.out hown hbel (((Below.refl _ _).alloc (Nat.le_refl _) _).alloc (by simp) _).drew hown' hgrow; clear hown' hgrow)
                go_roundw
                case rel => exact R
                case measure => simp [intOf]; omega
            · have hk : bits .and .i64 z 3 = 1 := hk3
              clear hk3 hkk
              by_cases hbig : 128 < t.size + 2 + x.size
              · go_wp2_with (go_at_call 16; refine (name_any x _).mono ?_; rintro e w' ⟨rfl, rfl⟩; rw [Hnb.out])
                go_region
                go_wp2_with fail
                refine (H1.out _).mono ?_
                rintro e w2 ⟨pp, cap2, rfl, hr2, hb2⟩
                go_wp2_with fail
                refine (same_any _ _ ns ns _ (fin_rd2 hr2 rfl _) (fin_rd ((hown.alloc _).drew) hb2 _)).mono ?_
                rintro e w3 ⟨rfl, nd, rfl⟩
                rw [decide_eq_true rfl]
                have d0 := (Blk.new w2 29 #[.bool false, .slice pp ns.length cap2, .bool dd]).cell 0
                simp only [List.getElem?_toArray, List.getElem?_cons_zero] at d0
                go_wp2
                go_ret
                exact ⟨rfl, by rw [HB.out]; exact below_drewN (fin_below HB.out ((hbel.alloc hsz _).drew) hb2 _) nd⟩
              · go_wp2_with (go_at_call 16; refine (name_any x _).mono ?_; rintro e w' ⟨rfl, rfl⟩; rw [Hnb.out])
                go_region
                go_wp2_with (at_builtin; refine wpList_append_own _ rfl _ _ 23 rfl B 9 i0 (.string ByteArray.empty) 1 16 Tryd.underlying23 hi hz0 hz1 hz2 rfl (by decide) _ _ _ rfl (((hown.alloc _).alloc _).drew) ⟨wr.heap.size + 1, 0, none⟩ 1 1 [.string x] rfl rfl (newsC wr _ _) (by simp [Value.oneCell']) (by unfold maxLen; omega) (by omega) (by simp; omega) ?_; intro v' w3 hown' hgrow _; have R := st_step 1 h2 h1 hnl Hg Hnb (by rw [ByteArray.size_append, ByteArray.size_append]; show t.size + 2 + x.size ≤ 128; omega) HB.out hown hbel (((Below.refl _ _).alloc (Nat.le_refl _) _).alloc (by simp) _).drew hown' hgrow; clear hown' hgrow)
                go_roundw
                case rel => exact R
                case measure => simp [intOf]; omega
            · have hk : bits .and .i64 z 3 = 2 := hk3
              clear hk3 hkk
              by_cases hbig : 128 < t.size + 3 + x.size
              · go_wp2_with (go_at_call 16; refine (name_any x _).mono ?_; rintro e w' ⟨rfl, rfl⟩; rw [Hnb.out])
                go_region
                go_wp2_with fail
                refine (H1.out _).mono ?_
                rintro e w2 ⟨pp, cap2, rfl, hr2, hb2⟩
                go_wp2_with fail
                refine (same_any _ _ ns ns _ (fin_rd2 hr2 rfl _) (fin_rd ((hown.alloc _).drew) hb2 _)).mono ?_
                rintro e w3 ⟨rfl, nd, rfl⟩
                rw [decide_eq_true rfl]
                have d0 := (Blk.new w2 29 #[.bool false, .slice pp ns.length cap2, .bool dd]).cell 0
                simp only [List.getElem?_toArray, List.getElem?_cons_zero] at d0
                go_wp2
                go_ret
                exact ⟨rfl, by rw [HB.out]; exact below_drewN (fin_below HB.out ((hbel.alloc hsz _).drew) hb2 _) nd⟩
              · go_wp2_with (go_at_call 16; refine (name_any x _).mono ?_; rintro e w' ⟨rfl, rfl⟩; rw [Hnb.out])
                go_region
                go_wp2_with (at_builtin; refine wpList_append_own _ rfl _ _ 23 rfl B 9 i0 (.string ByteArray.empty) 1 16 Tryd.underlying23 hi hz0 hz1 hz2 rfl (by decide) _ _ _ rfl (((hown.alloc _).alloc _).drew) ⟨wr.heap.size + 1, 0, none⟩ 1 1 [.string x] rfl rfl (newsC wr _ _) (by simp [Value.oneCell']) (by unfold maxLen; omega) (by omega) (by simp; omega) ?_; intro v' w3 hown' hgrow _; have R := st_step 2 h2 h1 hnl Hg Hnb (by rw [ByteArray.size_append, ByteArray.size_append]; show t.size + 3 + x.size ≤ 128; omega) HB.out hown hbel (((Below.refl _ _).alloc (Nat.le_refl _) _).alloc (by simp) _).drew hown' hgrow; clear hown' hgrow)
                go_roundw
                case rel => exact R
                case measure => simp [intOf]; omega
            · have hk : bits .and .i64 z 3 = 3 := hk3
              clear hk3 hkk
              by_cases hbig : 128 < t.size + 6 + x.size
              · go_wp2_with (go_at_call 16; refine (name_any x _).mono ?_; rintro e w' ⟨rfl, rfl⟩; rw [Hnb.out])
                go_region
                go_wp2_with fail
                refine (H1.out _).mono ?_
                rintro e w2 ⟨pp, cap2, rfl, hr2, hb2⟩
                go_wp2_with fail
                refine (same_any _ _ ns ns _ (fin_rd2 hr2 rfl _) (fin_rd ((hown.alloc _).drew) hb2 _)).mono ?_
                rintro e w3 ⟨rfl, nd, rfl⟩
                rw [decide_eq_true rfl]
                have d0 := (Blk.new w2 29 #[.bool false, .slice pp ns.length cap2, .bool dd]).cell 0
                simp only [List.getElem?_toArray, List.getElem?_cons_zero] at d0
                go_wp2
                go_ret
                exact ⟨rfl, by rw [HB.out]; exact below_drewN (fin_below HB.out ((hbel.alloc hsz _).drew) hb2 _) nd⟩
              · go_wp2_with (go_at_call 16; refine (name_any x _).mono ?_; rintro e w' ⟨rfl, rfl⟩; rw [Hnb.out])
                go_region
                go_wp2_with (at_builtin; refine wpList_append_own _ rfl _ _ 23 rfl B 9 i0 (.string ByteArray.empty) 1 16 Tryd.underlying23 hi hz0 hz1 hz2 rfl (by decide) _ _ _ rfl (((hown.alloc _).alloc _).drew) ⟨wr.heap.size + 1, 0, none⟩ 1 1 [.string x] rfl rfl (newsC wr _ _) (by simp [Value.oneCell']) (by unfold maxLen; omega) (by omega) (by simp; omega) ?_; intro v' w3 hown' hgrow _; have R := st_step 3 h2 h1 hnl Hg Hnb (by rw [ByteArray.size_append, ByteArray.size_append]; show t.size + 6 + x.size ≤ 128; omega) HB.out hown hbel (((Below.refl _ _).alloc (Nat.le_refl _) _).alloc (by simp) _).drew hown' hgrow; clear hown' hgrow)
                go_roundw
                case rel => exact R
                case measure => simp [intOf]; omega
          · by_cases hbig : 128 < t.size + 1 + x.size
            · go_wp2_with (go_at_call 16; refine (name_any x _).mono ?_; rintro e w' ⟨rfl, rfl⟩; rw [Hnb.out])
              go_region
              go_wp2_with fail
              refine (H1.out _).mono ?_
              rintro e w2 ⟨pp, cap2, rfl, hr2, hb2⟩
              go_wp2_with fail
              refine (same_any _ _ ns ns _ (fin_rd2 hr2 rfl _) (fin_rd ((hown.alloc _).drew) hb2 _)).mono ?_
              rintro e w3 ⟨rfl, nd, rfl⟩
              rw [decide_eq_true rfl]
              have d0 := (Blk.new w2 29 #[.bool false, .slice pp ns.length cap2, .bool dd]).cell 0
              simp only [List.getElem?_toArray, List.getElem?_cons_zero] at d0
              go_wp2
              go_ret
              exact ⟨rfl, by rw [HB.out]; exact below_drewN (fin_below HB.out ((hbel.alloc hsz _).drew) hb2 _) nd⟩
            · go_wp2_with (go_at_call 16; refine (name_any x _).mono ?_; rintro e w' ⟨rfl, rfl⟩; rw [Hnb.out])
              go_region
              go_wp2_with (at_builtin; refine wpList_append_own _ rfl _ _ 23 rfl B 9 i0 (.string ByteArray.empty) 1 16 Tryd.underlying23 hi hz0 hz1 hz2 rfl (by decide) _ _ _ rfl (((hown.alloc _).alloc _).drew) ⟨wr.heap.size + 1, 0, none⟩ 1 1 [.string x] rfl rfl (newsC wr _ _) (by simp [Value.oneCell']) (by unfold maxLen; omega) (by omega) (by simp; omega) ?_; intro v' w3 hown' hgrow _; have R := st_step 0 h2 h1 hnl Hg Hnb (by rw [ByteArray.size_append, ByteArray.size_append]; show t.size + 1 + x.size ≤ 128; omega) HB.out hown hbel (((Below.refl _ _).alloc (Nat.le_refl _) _).alloc (by simp) _).drew hown' hgrow; clear hown' hgrow)
              go_roundw
              case rel => exact R
              case measure => simp [intOf]; omega
      · have hno : decide ((i : Int) < (len : Int)) = true → decide ((i : Int) < 9) = false := by simp; omega
        by_cases hl1 : i < len
        · have h9 : ¬ i < 9 := fun h => hlt ⟨hl1, h⟩
          clear hlt hno
          go_wp2_with fail
          refine (H1.out _).mono ?_
          rintro e w2 ⟨pp, cap2, rfl, hr2, hb2⟩
          go_wp2_with fail
          refine (same_any _ _ ns ns _ (fin_rd2 hr2 rfl _) (fin_rd hown hb2 _)).mono ?_
          rintro e w3 ⟨rfl, nd, rfl⟩
          rw [decide_eq_true rfl]
          have d0 := (Blk.new w2 29 #[.bool false, .slice pp ns.length cap2, .bool dd]).cell 0
          simp only [List.getElem?_toArray, List.getElem?_cons_zero] at d0
          go_wp2
          go_ret
          exact ⟨rfl, by rw [HB.out]; exact below_drewN (fin_below HB.out hbel hb2 _) nd⟩
        · clear hlt hno
          go_wp2_with fail
          refine (H1.out _).mono ?_
          rintro e w2 ⟨pp, cap2, rfl, hr2, hb2⟩
          go_wp2_with fail
          refine (same_any _ _ ns ns _ (fin_rd2 hr2 rfl _) (fin_rd hown hb2 _)).mono ?_
          rintro e w3 ⟨rfl, nd, rfl⟩
          rw [decide_eq_true rfl]
          have d0 := (Blk.new w2 29 #[.bool false, .slice pp ns.length cap2, .bool dd]).cell 0
          simp only [List.getElem?_toArray, List.getElem?_cons_zero] at d0
          go_wp2
          go_ret
          exact ⟨rfl, by rw [HB.out]; exact below_drewN (fin_below HB.out hbel hb2 _) nd⟩
  · go_enter Tryd.func7, Tryd.ntmps7
    go_wp2_with (go_at_call 10; refine (shown_any _).mono ?_; rintro e w1 ⟨rfl, hb0⟩)
    rw [HB.out] at hb0
    go_loopw [8, 9, 10] (fun sv nv iv wr => stRel true B w len sv nv iv wr) (fun _ _ iv _ => 9 - (intOf iv).toNat)
    case atStart => exact ⟨0, ⟨#[47]⟩, [], by decide, Nat.zero_le _, rfl, rfl, Nat.le_refl _, good_root, World.ownsRow_nil _ _ _ _, hb0⟩
    case round =>
      obtain ⟨i, t, ns, hi9, hil, rfl, rfl, hnl, hgood, hown, hbel⟩ := hrel
      have hsz := hbel.size
      rw [HB.out] at hsz
      have htl : t.size ≤ 128 := by have := hgood.len; rw [size_len] at this; exact this
      obtain ⟨g1, g2, g3⟩ := hgood.split
      obtain ⟨dd, hdd⟩ : ∃ dd, splDir t.data.toList = dd := ⟨_, rfl⟩
      have H1 := Lib.hid (fun w : World => split_of t (by unfold maxLen; omega) 0 ns true dd ns.length g1 g2 rfl g3 hdd w)
      have Hg := Lib.hid hgood
      clear hgood g1 g2 g3 hdd
      by_cases hlt : i < len ∧ i < 9
      · obtain ⟨x, hx⟩ : ∃ x, ss[i]? = some x := ⟨_, List.getElem?_eq_getElem (by rw [HL.out.1]; exact hlt.1)⟩
        obtain ⟨b, off, rfl, hc, hxm⟩ := HL.out.2 i x hx
        have hbB : b < w.heap.size := cell_lt hc
        have hc' : wr.cell? ⟨b, off + i, none⟩ = some (.string x) := (hbel.cell (p := ⟨b, off + i, none⟩) (by show b < B; have := HB.out; omega)).trans hc
        have hbw : b < wr.heap.size := by have := HB.out; omega
        have h1 := hlt.1
        have h2 := hlt.2
        clear hlt hx hc
        cases hnb : nameB x.data.toList
        · have Hnb := Lib.hid hnb
          clear hnb
          go_wp2_with (go_at_call 16; refine (name_any x _).mono ?_; rintro e w' ⟨rfl, rfl⟩; rw [Hnb.out])
          go_roundw
          case rel => exact ⟨i + 1, t, ns, by omega, by omega, by go_num, rfl, by omega, Hg.out, hown, hbel⟩
          case measure => simp [intOf]; omega
        · have Hnb := Lib.hid hnb
          have hx14 : x.size ≤ 14 := by have := (name_parts hnb).2.1; rw [size_len] at this; exact this
          clear hnb
          by_cases hgl : i < glen
          · obtain ⟨z, hz⟩ : ∃ z, zs[i]? = some z := ⟨_, List.getElem?_eq_getElem (by rw [HG.out.1]; exact hgl)⟩
            obtain ⟨gb, goff, rfl, gc⟩ := HG.out.2 i z hz
            have gc' : wr.cell? ⟨gb, goff + i, none⟩ = some (.int .i64 z) := (hbel.cell (p := ⟨gb, goff + i, none⟩) (by show gb < B; have := HB.out; have := cell_lt gc; omega)).trans gc
            have hgw : gb < wr.heap.size := cell_lt gc'
            clear gc hz
            obtain ⟨kk, hkk, hk3⟩ := and_nat z 3 (by decide)
            rcases (by omega : kk = 0 ∨ kk = 1 ∨ kk = 2 ∨ kk = 3) with rfl | rfl | rfl | rfl
            · have hk : bits .and .i64 z 3 = 0 := hk3
              clear hk3 hkk
              by_cases hbig : 128 < t.size + 1 + x.size
              · go_wp2_with (go_at_call 16; refine (name_any x _).mono ?_; rintro e w' ⟨rfl, rfl⟩; rw [Hnb.out])
                go_region
                go_wp2_with fail
                refine (H1.out _).mono ?_
                rintro e w2 ⟨pp, cap2, rfl, hr2, hb2⟩
                go_wp2_with fail
                refine (same_any _ _ ns ns _ (fin_rd2 hr2 rfl _) (fin_rd ((hown.alloc _).drew) hb2 _)).mono ?_
                rintro e w3 ⟨rfl, nd, rfl⟩
                rw [decide_eq_true rfl]
                have d0 := (Blk.new w2 29 #[.bool true, .slice pp ns.length cap2, .bool dd]).cell 0
                simp only [List.getElem?_toArray, List.getElem?_cons_zero] at d0
                go_wp2
                go_ret
                exact ⟨rfl, by rw [HB.out]; exact below_drewN (fin_below HB.out ((hbel.alloc hsz _).drew) hb2 _) nd⟩
              · go_wp2_with (go_at_call 16; refine (name_any x _).mono ?_; rintro e w' ⟨rfl, rfl⟩; rw [Hnb.out])
                go_region
                go_wp2_with (at_builtin; refine wpList_append_own _ rfl _ _ 23 rfl B 9 i0 (.string ByteArray.empty) 1 16 Tryd.underlying23 hi hz0 hz1 hz2 rfl (by decide) _ _ _ rfl (((hown.alloc _).alloc _).drew) ⟨wr.heap.size + 1, 0, none⟩ 1 1 [.string x] rfl rfl (newsC wr _ _) (by simp [Value.oneCell']) (by unfold maxLen; omega) (by omega) (by simp; omega) ?_; intro v' w3 hown' hgrow _; have R := st_step 0 h2 h1 hnl Hg Hnb (by rw [ByteArray.size_append, ByteArray.size_append]; show t.size + 1 + x.size ≤ 128; omega) HB.out hown hbel (((Below.refl _ _).alloc (Nat.le_refl _) _).alloc (by simp) _).drew hown' hgrow; clear hown' hgrow)
                go_roundw
                case rel => exact R
                case measure => simp [intOf]; omega
            · have hk : bits .and .i64 z 3 = 1 := hk3
              clear hk3 hkk
              by_cases hbig : 128 < t.size + 2 + x.size
              · go_wp2_with (go_at_call 16; refine (name_any x _).mono ?_; rintro e w' ⟨rfl, rfl⟩; rw [Hnb.out])
                go_region
                go_wp2_with fail
                refine (H1.out _).mono ?_
                rintro e w2 ⟨pp, cap2, rfl, hr2, hb2⟩
                go_wp2_with fail
                refine (same_any _ _ ns ns _ (fin_rd2 hr2 rfl _) (fin_rd ((hown.alloc _).drew) hb2 _)).mono ?_
                rintro e w3 ⟨rfl, nd, rfl⟩
                rw [decide_eq_true rfl]
                have d0 := (Blk.new w2 29 #[.bool true, .slice pp ns.length cap2, .bool dd]).cell 0
                simp only [List.getElem?_toArray, List.getElem?_cons_zero] at d0
                go_wp2
                go_ret
                exact ⟨rfl, by rw [HB.out]; exact below_drewN (fin_below HB.out ((hbel.alloc hsz _).drew) hb2 _) nd⟩
              · go_wp2_with (go_at_call 16; refine (name_any x _).mono ?_; rintro e w' ⟨rfl, rfl⟩; rw [Hnb.out])
                go_region
                go_wp2_with (at_builtin; refine wpList_append_own _ rfl _ _ 23 rfl B 9 i0 (.string ByteArray.empty) 1 16 Tryd.underlying23 hi hz0 hz1 hz2 rfl (by decide) _ _ _ rfl (((hown.alloc _).alloc _).drew) ⟨wr.heap.size + 1, 0, none⟩ 1 1 [.string x] rfl rfl (newsC wr _ _) (by simp [Value.oneCell']) (by unfold maxLen; omega) (by omega) (by simp; omega) ?_; intro v' w3 hown' hgrow _; have R := st_step 1 h2 h1 hnl Hg Hnb (by rw [ByteArray.size_append, ByteArray.size_append]; show t.size + 2 + x.size ≤ 128; omega) HB.out hown hbel (((Below.refl _ _).alloc (Nat.le_refl _) _).alloc (by simp) _).drew hown' hgrow; clear hown' hgrow)
                go_roundw
                case rel => exact R
                case measure => simp [intOf]; omega
            · have hk : bits .and .i64 z 3 = 2 := hk3
              clear hk3 hkk
              by_cases hbig : 128 < t.size + 3 + x.size
              · go_wp2_with (go_at_call 16; refine (name_any x _).mono ?_; rintro e w' ⟨rfl, rfl⟩; rw [Hnb.out])
                go_region
                go_wp2_with fail
                refine (H1.out _).mono ?_
                rintro e w2 ⟨pp, cap2, rfl, hr2, hb2⟩
                go_wp2_with fail
                refine (same_any _ _ ns ns _ (fin_rd2 hr2 rfl _) (fin_rd ((hown.alloc _).drew) hb2 _)).mono ?_
                rintro e w3 ⟨rfl, nd, rfl⟩
                rw [decide_eq_true rfl]
                have d0 := (Blk.new w2 29 #[.bool true, .slice pp ns.length cap2, .bool dd]).cell 0
                simp only [List.getElem?_toArray, List.getElem?_cons_zero] at d0
                go_wp2
                go_ret
                exact ⟨rfl, by rw [HB.out]; exact below_drewN (fin_below HB.out ((hbel.alloc hsz _).drew) hb2 _) nd⟩
              · go_wp2_with (go_at_call 16; refine (name_any x _).mono ?_; rintro e w' ⟨rfl, rfl⟩; rw [Hnb.out])
                go_region
                go_wp2_with (at_builtin; refine wpList_append_own _ rfl _ _ 23 rfl B 9 i0 (.string ByteArray.empty) 1 16 Tryd.underlying23 hi hz0 hz1 hz2 rfl (by decide) _ _ _ rfl (((hown.alloc _).alloc _).drew) ⟨wr.heap.size + 1, 0, none⟩ 1 1 [.string x] rfl rfl (newsC wr _ _) (by simp [Value.oneCell']) (by unfold maxLen; omega) (by omega) (by simp; omega) ?_; intro v' w3 hown' hgrow _; have R := st_step 2 h2 h1 hnl Hg Hnb (by rw [ByteArray.size_append, ByteArray.size_append]; show t.size + 3 + x.size ≤ 128; omega) HB.out hown hbel (((Below.refl _ _).alloc (Nat.le_refl _) _).alloc (by simp) _).drew hown' hgrow; clear hown' hgrow)
                go_roundw
                case rel => exact R
                case measure => simp [intOf]; omega
            · have hk : bits .and .i64 z 3 = 3 := hk3
              clear hk3 hkk
              by_cases hbig : 128 < t.size + 6 + x.size
              · go_wp2_with (go_at_call 16; refine (name_any x _).mono ?_; rintro e w' ⟨rfl, rfl⟩; rw [Hnb.out])
                go_region
                go_wp2_with fail
                refine (H1.out _).mono ?_
                rintro e w2 ⟨pp, cap2, rfl, hr2, hb2⟩
                go_wp2_with fail
                refine (same_any _ _ ns ns _ (fin_rd2 hr2 rfl _) (fin_rd ((hown.alloc _).drew) hb2 _)).mono ?_
                rintro e w3 ⟨rfl, nd, rfl⟩
                rw [decide_eq_true rfl]
                have d0 := (Blk.new w2 29 #[.bool true, .slice pp ns.length cap2, .bool dd]).cell 0
                simp only [List.getElem?_toArray, List.getElem?_cons_zero] at d0
                go_wp2
                go_ret
                exact ⟨rfl, by rw [HB.out]; exact below_drewN (fin_below HB.out ((hbel.alloc hsz _).drew) hb2 _) nd⟩
              · go_wp2_with (go_at_call 16; refine (name_any x _).mono ?_; rintro e w' ⟨rfl, rfl⟩; rw [Hnb.out])
                go_region
                go_wp2_with (at_builtin; refine wpList_append_own _ rfl _ _ 23 rfl B 9 i0 (.string ByteArray.empty) 1 16 Tryd.underlying23 hi hz0 hz1 hz2 rfl (by decide) _ _ _ rfl (((hown.alloc _).alloc _).drew) ⟨wr.heap.size + 1, 0, none⟩ 1 1 [.string x] rfl rfl (newsC wr _ _) (by simp [Value.oneCell']) (by unfold maxLen; omega) (by omega) (by simp; omega) ?_; intro v' w3 hown' hgrow _; have R := st_step 3 h2 h1 hnl Hg Hnb (by rw [ByteArray.size_append, ByteArray.size_append]; show t.size + 6 + x.size ≤ 128; omega) HB.out hown hbel (((Below.refl _ _).alloc (Nat.le_refl _) _).alloc (by simp) _).drew hown' hgrow; clear hown' hgrow)
                go_roundw
                case rel => exact R
                case measure => simp [intOf]; omega
          · by_cases hbig : 128 < t.size + 1 + x.size
            · go_wp2_with (go_at_call 16; refine (name_any x _).mono ?_; rintro e w' ⟨rfl, rfl⟩; rw [Hnb.out])
              go_region
              go_wp2_with fail
              refine (H1.out _).mono ?_
              rintro e w2 ⟨pp, cap2, rfl, hr2, hb2⟩
              go_wp2_with fail
              refine (same_any _ _ ns ns _ (fin_rd2 hr2 rfl _) (fin_rd ((hown.alloc _).drew) hb2 _)).mono ?_
              rintro e w3 ⟨rfl, nd, rfl⟩
              rw [decide_eq_true rfl]
              have d0 := (Blk.new w2 29 #[.bool true, .slice pp ns.length cap2, .bool dd]).cell 0
              simp only [List.getElem?_toArray, List.getElem?_cons_zero] at d0
              go_wp2
              go_ret
              exact ⟨rfl, by rw [HB.out]; exact below_drewN (fin_below HB.out ((hbel.alloc hsz _).drew) hb2 _) nd⟩
            · go_wp2_with (go_at_call 16; refine (name_any x _).mono ?_; rintro e w' ⟨rfl, rfl⟩; rw [Hnb.out])
              go_region
              go_wp2_with (at_builtin; refine wpList_append_own _ rfl _ _ 23 rfl B 9 i0 (.string ByteArray.empty) 1 16 Tryd.underlying23 hi hz0 hz1 hz2 rfl (by decide) _ _ _ rfl (((hown.alloc _).alloc _).drew) ⟨wr.heap.size + 1, 0, none⟩ 1 1 [.string x] rfl rfl (newsC wr _ _) (by simp [Value.oneCell']) (by unfold maxLen; omega) (by omega) (by simp; omega) ?_; intro v' w3 hown' hgrow _; have R := st_step 0 h2 h1 hnl Hg Hnb (by rw [ByteArray.size_append, ByteArray.size_append]; show t.size + 1 + x.size ≤ 128; omega) HB.out hown hbel (((Below.refl _ _).alloc (Nat.le_refl _) _).alloc (by simp) _).drew hown' hgrow; clear hown' hgrow)
              go_roundw
              case rel => exact R
              case measure => simp [intOf]; omega
      · have hno : decide ((i : Int) < (len : Int)) = true → decide ((i : Int) < 9) = false := by simp; omega
        by_cases hl1 : i < len
        · have h9 : ¬ i < 9 := fun h => hlt ⟨hl1, h⟩
          clear hlt hno
          go_wp2_with fail
          refine (H1.out _).mono ?_
          rintro e w2 ⟨pp, cap2, rfl, hr2, hb2⟩
          go_wp2_with fail
          refine (same_any _ _ ns ns _ (fin_rd2 hr2 rfl _) (fin_rd hown hb2 _)).mono ?_
          rintro e w3 ⟨rfl, nd, rfl⟩
          rw [decide_eq_true rfl]
          have d0 := (Blk.new w2 29 #[.bool true, .slice pp ns.length cap2, .bool dd]).cell 0
          simp only [List.getElem?_toArray, List.getElem?_cons_zero] at d0
          go_wp2
          go_ret
          exact ⟨rfl, by rw [HB.out]; exact below_drewN (fin_below HB.out hbel hb2 _) nd⟩
        · clear hlt hno
          go_wp2_with fail
          refine (H1.out _).mono ?_
          rintro e w2 ⟨pp, cap2, rfl, hr2, hb2⟩
          go_wp2_with fail
          refine (same_any _ _ ns ns _ (fin_rd2 hr2 rfl _) (fin_rd hown hb2 _)).mono ?_
          rintro e w3 ⟨rfl, nd, rfl⟩
          rw [decide_eq_true rfl]
          have d0 := (Blk.new w2 29 #[.bool true, .slice pp ns.length cap2, .bool dd]).cell 0
          simp only [List.getElem?_toArray, List.getElem?_cons_zero] at d0
          go_wp2
          go_ret
          exact ⟨rfl, by rw [HB.out]; exact below_drewN (fin_below HB.out hbel hb2 _) nd⟩
end Go.Proofs.YtiiomflffnmhnaaDoor
