/- Contracts of Text of package mode and of the document's answer. -/
import Derived.Test.YtmjjhoaplcjjcaaW2
import Derived.Laws.IdiomStrings
import Derived.WalkSmall
namespace Go.Proofs.Ytmjjhoaplcjjcaa
open Go.RowKit

theorem Try.info5 : (Try.prog.info? 5).map (fun i => (i.zero, i.size, i.bytes)) = some (some (.int .u8 0), 1, 1) := by kernel_rfl

def rwx : ByteArray := ⟨#[114, 119, 120]⟩
theorem rwx_lt (k : Nat) : k % 3 < rwx.size := Nat.mod_lt _ (by decide)
def chB (m : Int) (k : Nat) : UInt8 := if (bits .and .i64 m (256 / 2 ^ k) != 0) = true then rwx[k % 3]'(rwx_lt k) else 45
def cellB (b : UInt8) : Value := .int .u8 (b.toNat : Int)
def textB (f : UInt8) (m : Int) (k : Nat) : List UInt8 := f :: (List.range k).map (chB m)
theorem textB_len (f : UInt8) (m : Int) (k : Nat) : (textB f m k).length = k + 1 := by simp [textB]
theorem textB_succ (f : UInt8) (m : Int) (k : Nat) : textB f m (k + 1) = textB f m k ++ [chB m k] := by simp [textB, List.range_succ]

def textRel (f : UInt8) (m : Int) (B : Nat) (w : World) (v i : Value) (wr : World) : Prop :=
  ∃ k : Nat, k ≤ 9 ∧ i = .int .i64 k ∧ wr.ownsRow B 5 1 v (k + 1) ((textB f m k).map cellB) ∧ Below B w wr
theorem text_step {f : UInt8} {m : Int} {B k : Nat} {w w0 wr w1 : World} {v v' : Value} {c : Value} (h9 : k < 9) (hc : c = cellB (chB m k)) (hb : Below B w w0) (hB : B ≤ w0.heap.size)
    (hw : w0.ownsRow B 5 1 v (k + 1) ((textB f m k).map cellB)) (hwr : wr = w0.alloc (.cells #[c] 5))
    (hg : wr.grownBy w1 v.ownBlock) (hown : w1.ownsRow B 5 1 v' (k + 1 + 1) ((textB f m k).map cellB ++ [c])) :
    textRel f m B w v' (.int .i64 ((k : Int) + 1)) w1 := by
  subst hwr hc
  refine ⟨k + 1, by omega, by go_num, ?_, ?_⟩
  · rw [textB_succ, List.map_append]; exact hown
  · exact (hb.alloc hB _).grown hg (by simp; omega) (fun g hg => (hw.lt g hg).1)

def markB (x a b : UInt8) : UInt8 := if x = 120 then a else b
theorem mark_s (x : UInt8) (w : World) :
    Calls Try.prog 24 #[.int .u8 (x.toNat : Int), .int .u8 115, .int .u8 83] w fun e w' => e = .returned (.int .u8 ((markB x 115 83).toNat : Int)) ∧ w = w' :=
  (mark_any _ _ _ w).mono fun e w' ⟨he, hw⟩ => ⟨by
    rw [he]; unfold markB
    by_cases h : x = 120
    · rw [if_pos h, if_pos (by rw [h]; rfl)]; rfl
    · rw [if_neg h, if_neg (by rw [beq_iff_eq]; intro e; exact h (UInt8.toNat_inj.1 (by show x.toNat = 120; omega)))]; rfl, hw⟩
theorem mark_t (x : UInt8) (w : World) :
    Calls Try.prog 24 #[.int .u8 (x.toNat : Int), .int .u8 116, .int .u8 84] w fun e w' => e = .returned (.int .u8 ((markB x 116 84).toNat : Int)) ∧ w = w' :=
  (mark_any _ _ _ w).mono fun e w' ⟨he, hw⟩ => ⟨by
    rw [he]; unfold markB
    by_cases h : x = 120
    · rw [if_pos h, if_pos (by rw [h]; rfl)]; rfl
    · rw [if_neg h, if_neg (by rw [beq_iff_eq]; intro e; exact h (UInt8.toNat_inj.1 (by show x.toNat = 120; omega)))]; rfl, hw⟩
theorem own_shape {w : World} {base : Nat} {e : TypeId} {size : Nat} {v : Value} {n : Nat} {xs : List Value} (h : w.ownsRow base e size v n xs) (hn : 0 < n) :
    ∃ g cap, v = .slice (some ⟨g, 0, none⟩) n cap ∧ base ≤ g := by
  rcases h.2 with ⟨_, h0⟩ | ⟨g, cap, cur, hv, hg, _⟩
  · omega
  · exact ⟨g, cap, hv, hg⟩
theorem own_cell {w : World} {base g cap n : Nat} {l : List UInt8} (h : w.ownsRow base 5 1 (.slice (some ⟨g, 0, none⟩) n cap) n (l.map cellB)) (j : Nat) (hj : j < l.length) :
    w.cell? ⟨g, j, none⟩ = some (.int .u8 ((l[j]'hj).toNat : Int)) := by
  have hl : l.length = n := by simpa using h.1
  rw [h.cellAt j (by omega), List.getElem?_map, List.getElem?_eq_getElem hj]; rfl
theorem own_string {w : World} {base g cap n : Nat} {l : List UInt8} (h : w.ownsRow base 5 1 (.slice (some ⟨g, 0, none⟩) n cap) n (l.map cellB)) :
    (convert 36 9 (.slice (some ⟨g, 0, none⟩) n cap)).run Try.prog w = .ok (.string ⟨l.toArray⟩) w := by
  have hl : l.length = n := by simpa using h.1
  rw [← hl]
  refine run_convert_bytes_back w 36 9 5 ⟨g, 0, none⟩ cap l Try.underlying36 Try.underlying5 Try.underlying9 fun j hj => ?_
  rw [Addr.add_lit, Nat.zero_add]
  exact own_cell h j hj
theorem own_store {w : World} {base g cap n : Nat} {l : List UInt8} (h : w.ownsRow base 5 1 (.slice (some ⟨g, 0, none⟩) n cap) n (l.map cellB)) (j : Nat) (c : UInt8) :
    (w.setCell ⟨g, j, none⟩ (.int .u8 (c.toNat : Int))).ownsRow base 5 1 (.slice (some ⟨g, 0, none⟩) n cap) n ((l.set j c).map cellB) := by
  have := (h.stored j (cellB c)).1
  rw [← List.map_set] at this
  exact this

def textS (f : UInt8) (m : Int) : List UInt8 :=
  if (bits .and .i64 m 512 != 0) = true then (if (bits .and .i64 m 2048 != 0) = true then (textB f m 9).set 3 (markB (chB m 2) 115 83) else textB f m 9).set 9 (markB (chB m 8) 116 84)
  else if (bits .and .i64 m 2048 != 0) = true then (textB f m 9).set 3 (markB (chB m 2) 115 83) else textB f m 9

set_option maxHeartbeats 3200000 in
theorem text_loop (kind m : Int) (f : UInt8) (w : World) (hr : rightB m = true) (hf : (if kind = 0 then 45 else if kind = 1 then 100 else if kind = 2 then 99 else 0) = (f.toNat : Int)) (hk : (decide (0 ≤ kind) && decide (kind ≤ 2)) = true) :
    Calls Try.prog 18 #[.int .i64 kind, .int .i64 m] w fun e w' => e = .returned (.string ⟨(textS f m).toArray⟩) ∧ Below w.heap.size w w' := by
  have Hf := Lib.hid hf
  have Hk := Lib.hid hk
  clear hf hk
  obtain ⟨B, hB⟩ : ∃ B, w.heap.size = B := ⟨_, rfl⟩
  have HB := Lib.hid hB
  obtain ⟨i0, hi, hz0, hz1, hz2⟩ := info_parts Try.info5
  go_enter Try.func18, Try.ntmps18
  go_wp2_with (first | (go_at_call 23; refine (kind_any _ _).mono ?_; rintro e w' ⟨rfl, rfl⟩; rw [Hf.out, Hk.out]) | (go_at_call 12; refine (right_any _ _).mono ?_; rintro e w' ⟨rfl, rfl⟩))
  go_loopw [7, 8, 9, 24] (fun v _ _ i wr => textRel f m B w v i wr) (fun _ _ _ i _ => 9 - (intOf i).toNat)
  case atStart =>
    refine ⟨0, by decide, rfl, ?_, (Below.refl _ _).alloc (by omega) _⟩
    have h := World.ownsRow_lit (base := B) (e := 5) (size := 1) w #[cellB f] 1 (by omega) (by decide) rfl
    rw [hB] at h
    exact h
  case round =>
    obtain ⟨k, hk, rfl, hown, hbel⟩ := hrel
    have hsz : B ≤ wr.heap.size := by have := hbel.size; omega
    by_cases h9 : k < 9
    · have h3 : k % 3 < 3 := Nat.mod_lt _ (by decide)
      have h0 : (0 : Int) ≤ (k : Int) := by omega
      cases hb : (bits .and .i64 m (256 / 2 ^ k) != 0)
      · have Hc := Lib.hid (show (.int .u8 45 : Value) = cellB (chB m k) by unfold chB; rw [hb]; rfl)
        go_wp2_with (at_builtin; refine wpList_append_own _ rfl _ _ 36 rfl B 5 i0 (.int .u8 0) 1 1 Try.underlying36 hi hz0 hz1 hz2 rfl (by decide) _ _ _ rfl (hown.alloc _) ⟨wr.heap.size, 0, none⟩ 1 1 [.int .u8 45] rfl rfl ?c1 ?c2 ?c3 ?c4 ?c5 ?_)
        case c1 =>
          intro j u hj
          match j, hj with
          | 0, hj => simp at hj; subst hj; simp [Addr.add]
        case c2 => intro u hu; simp at hu; subst hu; rfl
        case c3 => unfold maxLen; omega
        case c4 => omega
        case c5 => simp; omega
        intro v' w1 hown' hgrow _
        have R := text_step h9 Hc.out hbel hsz hown rfl hgrow hown'
        clear hown' hgrow hown hbel
        go_wp2
        go_roundw
        case rel => exact R
        case measure => simp [intOf]; omega
      · have Hc := Lib.hid (show (.int .u8 (((⟨#[114, 119, 120]⟩ : ByteArray)[k % 3]'h3).toNat : Int) : Value) = cellB (chB m k) by unfold chB; rw [hb]; rfl)
        go_wp2_with (at_builtin; refine wpList_append_own _ rfl _ _ 36 rfl B 5 i0 (.int .u8 0) 1 1 Try.underlying36 hi hz0 hz1 hz2 rfl (by decide) _ _ _ rfl (hown.alloc _) ⟨wr.heap.size, 0, none⟩ 1 1 [.int .u8 (((⟨#[114, 119, 120]⟩ : ByteArray)[k % 3]'h3).toNat : Int)] rfl rfl ?d1 ?d2 ?d3 ?d4 ?d5 ?_)
        case d1 =>
          intro j u hj
          match j, hj with
          | 0, hj => simp at hj; subst hj; simp [Addr.add]
        case d2 => intro u hu; simp at hu; subst hu; rfl
        case d3 => unfold maxLen; omega
        case d4 => omega
        case d5 => simp; omega
        intro v' w1 hown' hgrow _
        have R := text_step h9 Hc.out hbel hsz hown rfl hgrow hown'
        clear hown' hgrow hown hbel
        go_wp2
        go_roundw
        case rel => exact R
        case measure => simp [intOf]; omega
    · obtain rfl : k = 9 := by omega
      obtain ⟨g, cap, rfl, hg⟩ := own_shape hown (by decide)
      have hlen : (textB f m 9).length = 10 := textB_len f m 9
      have c3 : wr.cell? ⟨g, 3, none⟩ = some (.int .u8 ((chB m 2).toNat : Int)) := own_cell hown 3 (by omega)
      have f3 := hown.frozenAt 3
      have f9 := hown.frozenAt 9
      have z9 : ((9 : Nat) : Int) = 9 := rfl
      cases b1 : (bits .and .i64 m 2048 != 0)
      · have c9 : wr.cell? ⟨g, 9, none⟩ = some (.int .u8 ((chB m 8).toNat : Int)) := own_cell hown 9 (by omega)
        cases b2 : (bits .and .i64 m 512 != 0)
        · have hs := own_string hown
          have Ht := Lib.hid (show textS f m = textB f m 9 by unfold textS; rw [b1, b2]; rfl)
          clear hown
          go_wp2
          go_ret
          exact ⟨by rw [Ht.out]; rfl, by rw [HB.out]; exact hbel⟩
        · have ho2 := own_store hown 9 (markB (chB m 8) 116 84)
          have hs := own_string ho2
          have Ht := Lib.hid (show textS f m = (textB f m 9).set 9 (markB (chB m 8) 116 84) by unfold textS; rw [b1, b2]; rfl)
          clear hown ho2
          go_wp2_with (go_at_call 24; (with_reducible refine (mark_t (chB m 8) _).mono ?_); rintro e w' ⟨rfl, rfl⟩)
          go_ret
          exact ⟨by rw [Ht.out]; rfl, by rw [HB.out]; exact hbel.setCell (p := ⟨g, 9, none⟩) hg _⟩
      · have ho1 := own_store hown 3 (markB (chB m 2) 115 83)
        have hlen1 : ((textB f m 9).set 3 (markB (chB m 2) 115 83)).length = 10 := by simp [hlen]
        cases b2 : (bits .and .i64 m 512 != 0)
        · have hs := own_string ho1
          have Ht := Lib.hid (show textS f m = (textB f m 9).set 3 (markB (chB m 2) 115 83) by unfold textS; rw [b1, b2]; rfl)
          clear hown ho1 hlen1
          go_wp2_with (go_at_call 24; (with_reducible refine (mark_s (chB m 2) _).mono ?_); rintro e w' ⟨rfl, rfl⟩)
          go_ret
          exact ⟨by rw [Ht.out]; rfl, by rw [HB.out]; exact hbel.setCell (p := ⟨g, 3, none⟩) hg _⟩
        · have c9 : (wr.setCell ⟨g, 3, none⟩ (.int .u8 ((markB (chB m 2) 115 83).toNat : Int))).cell? ⟨g, 9, none⟩ = some (.int .u8 ((chB m 8).toNat : Int)) := by
            have := own_cell ho1 9 (by omega)
            rw [this, List.getElem_set_ne (by decide)]
            rfl
          have f9' := ho1.frozenAt 9
          have ho2 := own_store ho1 9 (markB (chB m 8) 116 84)
          have hs := own_string ho2
          have Ht := Lib.hid (show textS f m = ((textB f m 9).set 3 (markB (chB m 2) 115 83)).set 9 (markB (chB m 8) 116 84) by unfold textS; rw [b1, b2]; rfl)
          clear hown ho1 ho2 hlen1
          go_wp2_with (first | (go_at_call 24; (with_reducible refine (mark_s (chB m 2) _).mono ?_); rintro e w' ⟨rfl, rfl⟩) | (go_at_call 24; (with_reducible refine (mark_t (chB m 8) _).mono ?_); rintro e w' ⟨rfl, rfl⟩))
          go_ret
          exact ⟨by rw [Ht.out]; rfl, by rw [HB.out]; exact (hbel.setCell (p := ⟨g, 3, none⟩) hg _).setCell (p := ⟨g, 9, none⟩) hg _⟩
end Go.Proofs.Ytmjjhoaplcjjcaa
