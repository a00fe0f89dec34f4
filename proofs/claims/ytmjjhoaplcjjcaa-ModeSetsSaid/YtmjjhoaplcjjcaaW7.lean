/- Contract of the document's answer Text. -/
import Derived.Test.YtmjjhoaplcjjcaaW6
namespace Go.Proofs.Ytmjjhoaplcjjcaa
open Go.RowKit

theorem bit_nat : ∀ j : Fin 9, ∀ a : Fin 64, ∀ b : Fin 64, ((a.val * 64 + b.val) / 2 ^ j.val &&& 1 == 1) = ((a.val * 64 + b.val) &&& 256 / 2 ^ (8 - j.val) != 0) := by
  decide +kernel
theorem bit_eq (n j : Nat) (hn : n < 4096) (hj : j < 9) : (bits .and .i64 ((n : Int) / 2 ^ j) 1 == 1) = (bits .and .i64 (n : Int) (256 / 2 ^ (8 - j)) != 0) := by
  have h := bit_nat ⟨j, hj⟩ ⟨n / 64, by omega⟩ ⟨n % 64, by omega⟩
  have e : n / 64 * 64 + n % 64 = n := by omega
  simp only [e] at h
  have e1 : (n : Int) / 2 ^ j = ((n / 2 ^ j : Nat) : Int) := by rw [Int.natCast_ediv, Int.natCast_pow]; rfl
  have e2 : (256 : Int) / 2 ^ (8 - j) = ((256 / 2 ^ (8 - j) : Nat) : Int) := by rw [Int.natCast_ediv, Int.natCast_pow]; rfl
  have l1 : n / 2 ^ j ≤ n := Nat.div_le_self _ _
  have l2 : 256 / 2 ^ (8 - j) ≤ 256 := Nat.div_le_self _ _
  have a1 : bits .and .i64 ((n / 2 ^ j : Nat) : Int) 1 = ((n / 2 ^ j &&& 1 : Nat) : Int) := and_nat _ 1 (by omega) (by omega)
  rw [e1, e2, a1, and_nat _ _ (by omega) (by omega)]
  have c1 : (((n / 2 ^ j &&& 1 : Nat) : Int) == 1) = (n / 2 ^ j &&& 1 == 1) := cast_beq _ 1
  have c2 : (((n &&& 256 / 2 ^ (8 - j) : Nat) : Int) != 0) = (n &&& 256 / 2 ^ (8 - j) != 0) := by
    have := cast_beq (n &&& 256 / 2 ^ (8 - j)) 0
    simp only [bne]; rw [← this]; rfl
  rw [c1, c2, h]
def xwr : ByteArray := ⟨#[120, 119, 114]⟩
theorem xwr_eq : ∀ j : Fin 9, (⟨#[120, 119, 114]⟩ : ByteArray)[j.val % 3]'(Nat.mod_lt _ (by decide)) = rwx[(8 - j.val) % 3]'(rwx_lt _) := by decide
theorem ref_char (n j k : Nat) (hn : n < 4096) (hj : j < 9) (hk : k = 8 - j) (b : Bool) (hb : (bits .and .i64 ((n : Int) / 2 ^ j) 1 == 1) = b) :
    chB (n : Int) k = if b = true then (⟨#[120, 119, 114]⟩ : ByteArray)[j % 3]'(Nat.mod_lt _ (by decide)) else 45 := by
  subst hk
  unfold chB
  rw [← bit_eq n j hn hj, hb]
  have := xwr_eq ⟨j, hj⟩
  cases b
  · rfl
  · rw [if_pos rfl, if_pos rfl]; exact this.symm
theorem mark_bit (m : Int) (k : Nat) (q : Int) (hk : k % 3 = 2) (hq : (256 : Int) / 2 ^ k = q) (a b : UInt8) : markB (chB m k) a b = if (bits .and .i64 m q != 0) = true then a else b := by
  subst hq
  unfold markB chB
  cases h : (bits .and .i64 m (256 / 2 ^ k) != 0)
  · rfl
  · rw [if_pos rfl, if_pos rfl]
    have : rwx[k % 3]'(rwx_lt k) = 120 := by simp only [hk]; rfl
    rw [this, if_pos rfl]
theorem down_step {f : UInt8} {m : Int} {B k j : Nat} {w w0 wr w1 : World} {v v' : Value} {c : Value} (h9 : k < 9) (hj : k = 8 - j) (hj9 : j < 9) (hc : c = cellB (chB m k)) (hb : Below B w w0) (hB : B ≤ w0.heap.size)
    (hw : w0.ownsRow B 5 1 v (k + 1) ((textB f m k).map cellB)) (hwr : wr = w0.alloc (.cells #[c] 5))
    (hg : wr.grownBy w1 v.ownBlock) (hown : w1.ownsRow B 5 1 v' (k + 1 + 1) ((textB f m k).map cellB ++ [c])) :
    ∃ k' : Nat, k' ≤ 9 ∧ (Value.int .i64 ((j : Int) - 1)) = .int .i64 (8 - (k' : Int)) ∧ w1.ownsRow B 5 1 v' (k' + 1) ((textB f m k').map cellB) ∧ Below B w w1 := by
  obtain ⟨k', h1, h2, h3, h4⟩ := text_step h9 hc hb hB hw hwr hg hown
  simp only [Value.int.injEq, true_and] at h2
  obtain rfl : k' = k + 1 := by omega
  exact ⟨k + 1, h1, congrArg (Value.int .i64) (by omega), h3, h4⟩
def downRel (f : UInt8) (m : Int) (B : Nat) (w : World) (v i : Value) (wr : World) : Prop :=
  ∃ k : Nat, k ≤ 9 ∧ i = .int .i64 (8 - (k : Int)) ∧ wr.ownsRow B 5 1 v (k + 1) ((textB f m k).map cellB) ∧ Below B w wr

theorem own_storeI {w : World} {base g cap n : Nat} {l : List UInt8} (h : w.ownsRow base 5 1 (.slice (some ⟨g, 0, none⟩) n cap) n (l.map cellB)) (j : Nat) (c : UInt8) (x : Int) (hx : (c.toNat : Int) = x) :
    (w.setCell ⟨g, j, none⟩ (.int .u8 x)).ownsRow base 5 1 (.slice (some ⟨g, 0, none⟩) n cap) n ((l.set j c).map cellB) := by
  subst hx
  exact own_store h j c
set_option maxHeartbeats 3200000 in
theorem refText_yes (kn n : Nat) (h3 : kn < 3) (hn : n < 4096) (w : World) (hr : refRightB (n : Int) = true) :
    Calls Try.prog 19 #[.int .i64 (kn : Int), .int .i64 (n : Int)] w fun e w' => e = .returned (.string ⟨(textS ((⟨#[45, 100, 99]⟩ : ByteArray)[kn]'h3) (n : Int)).toArray⟩) ∧ Below w.heap.size w w' := by
  obtain ⟨B, hB⟩ : ∃ B, w.heap.size = B := ⟨_, rfl⟩
  have HB := Lib.hid hB
  obtain ⟨i0, hi, hz0, hz1, hz2⟩ := info_parts Try.info5
  have hk3 : (kn : Int) < 3 := by omega
  go_enter Try.func19, Try.ntmps19
  go_wp2_with (go_at_call 13; refine (refRight_any _ _).mono ?_; rintro e w' ⟨rfl, rfl⟩)
  go_loopw [6, 7, 8] (fun v i _ wr => downRel ((⟨#[45, 100, 99]⟩ : ByteArray)[kn]'h3) (n : Int) B w v i wr) (fun _ i _ _ => (intOf i + 1).toNat)
  case atStart =>
    refine ⟨0, by decide, rfl, ?_, (Below.refl _ _).alloc (by omega) _⟩
    have h := World.ownsRow_lit (base := B) (e := 5) (size := 1) w #[cellB ((⟨#[45, 100, 99]⟩ : ByteArray)[kn]'h3)] 1 (by omega) (by decide) rfl
    rw [hB] at h
    exact h
  case round =>
    obtain ⟨k, hk, rfl, hown, hbel⟩ := hrel
    have hsz : B ≤ wr.heap.size := by have := hbel.size; omega
    by_cases h9 : k < 9
    · obtain ⟨j, hj⟩ : ∃ j : Nat, k = 8 - j ∧ j < 9 := ⟨8 - k, by omega, by omega⟩
      have ej : (8 - (k : Int)) = (j : Int) := by omega
      rw [ej]
      have Hj := Lib.hid hj.1
      have hj9 := hj.2
      have hm3 : j % 3 < 3 := Nat.mod_lt _ (by decide)
      have h0 : (0 : Int) ≤ (j : Int) := by omega
      clear hj ej
      cases hb : (bits .and .i64 ((n : Int) / 2 ^ j) 1 == 1)
      · skip
        have Hc := Lib.hid (show (.int .u8 45 : Value) = cellB (chB (n : Int) k) by rw [ref_char n j k hn hj9 Hj.out false hb]; rfl)
        go_wp2_with (at_builtin; refine wpList_append_own _ rfl _ _ 36 rfl B 5 i0 (.int .u8 0) 1 1 Try.underlying36 hi hz0 hz1 hz2 rfl (by decide) _ _ _ rfl (hown.alloc _) ⟨wr.heap.size, 0, none⟩ 1 1 [.int .u8 45] rfl rfl ?c1 ?c2 ?c3 ?c4 ?c5 ?_)
        case c1 =>
          intro j u hj
          match j, hj with
          | 0, hj => simp at hj; subst hj; simp [Addr.add]
        case c2 => intro u hu; simp at hu; subst hu; rfl
        case c3 => unfold maxLen; omega
        case c4 => omega
        case c5 => exact Nat.le_trans hsz (by simp)
        intro v' w1 hown' hgrow _
        have R := down_step h9 Hj.out hj9 Hc.out hbel hsz hown rfl hgrow hown'
        clear hown' hgrow hown hbel
        go_wp2
        go_roundw
        case rel => exact R
        case measure => simp [intOf]
      · skip
        have Hc := Lib.hid (show (.int .u8 (((⟨#[120, 119, 114]⟩ : ByteArray)[j % 3]'hm3).toNat : Int) : Value) = cellB (chB (n : Int) k) by rw [ref_char n j k hn hj9 Hj.out true hb]; rfl)
        go_wp2_with (at_builtin; refine wpList_append_own _ rfl _ _ 36 rfl B 5 i0 (.int .u8 0) 1 1 Try.underlying36 hi hz0 hz1 hz2 rfl (by decide) _ _ _ rfl (hown.alloc _) ⟨wr.heap.size, 0, none⟩ 1 1 [.int .u8 (((⟨#[120, 119, 114]⟩ : ByteArray)[j % 3]'hm3).toNat : Int)] rfl rfl ?d1 ?d2 ?d3 ?d4 ?d5 ?_)
        case d1 =>
          intro j u hj
          match j, hj with
          | 0, hj => simp at hj; subst hj; simp [Addr.add]
        case d2 => intro u hu; simp at hu; subst hu; rfl
        case d3 => unfold maxLen; omega
        case d4 => omega
        case d5 => exact Nat.le_trans hsz (by simp)
        intro v' w1 hown' hgrow _
        have R := down_step h9 Hj.out hj9 Hc.out hbel hsz hown rfl hgrow hown'
        clear hown' hgrow hown hbel
        go_wp2
        go_roundw
        case rel => exact R
        case measure => simp [intOf]
    · obtain rfl : k = 9 := by omega
      have z9 : (8 - ((9 : Nat) : Int)) = -1 := rfl
      rw [z9]
      clear z9
      obtain ⟨g, cap, rfl, hg⟩ := own_shape hown (by decide)
      have hlen : (textB ((⟨#[45, 100, 99]⟩ : ByteArray)[kn]'h3) (n : Int) 9).length = 10 := textB_len _ _ 9
      have f3 := hown.frozenAt 3
      have f9 := hown.frozenAt 9
      have c3 : wr.cell? ⟨g, 3, none⟩ = some (.int .u8 ((chB (n : Int) 2).toNat : Int)) := own_cell hown 3 (by omega)
      have c9 : wr.cell? ⟨g, 9, none⟩ = some (.int .u8 ((chB (n : Int) 8).toNat : Int)) := own_cell hown 9 (by omega)
      have m3 := mark_bit (n : Int) 2 64 rfl (by decide) 115 83
      have m9 := mark_bit (n : Int) 8 1 rfl (by decide) 116 84
      have M3 := Lib.hid m3
      have M9 := Lib.hid m9
      clear m3 m9
      cases b1 : (bits .and .i64 (n : Int) 2048 != 0)
      · skip
        cases b2 : (bits .and .i64 (n : Int) 512 != 0)
        · skip
          have Ht := Lib.hid (show textS ((⟨#[45, 100, 99]⟩ : ByteArray)[kn]'h3) (n : Int) = textB ((⟨#[45, 100, 99]⟩ : ByteArray)[kn]'h3) (n : Int) 9 by
            unfold textS
            rw [b1, b2]
            rfl)
          have hs := own_string hown
          clear hown 
          go_wp2
          go_ret
          exact ⟨by rw [Ht.out]; rfl, by rw [HB.out]; exact hbel⟩
        · cases b4 : (bits .and .i64 (n : Int) 1 != 0)
          · skip
            have o0 := own_storeI hown 9 84 84 rfl
            have Ht := Lib.hid (show textS ((⟨#[45, 100, 99]⟩ : ByteArray)[kn]'h3) (n : Int) = (textB ((⟨#[45, 100, 99]⟩ : ByteArray)[kn]'h3) (n : Int) 9).set 9 84 by
              unfold textS
              rw [b1, b2, M9.out, b4]
              rfl)
            have hs := own_string o0
            clear hown o0
            go_wp2
            go_ret
            exact ⟨by rw [Ht.out]; rfl, by rw [HB.out]; exact (hbel.setCell (p := ⟨g, 9, none⟩) hg _)⟩
          · skip
            have o0 := own_storeI hown 9 84 84 rfl
            have o1 := own_storeI o0 9 116 116 rfl
            have Ht := Lib.hid (show textS ((⟨#[45, 100, 99]⟩ : ByteArray)[kn]'h3) (n : Int) = ((textB ((⟨#[45, 100, 99]⟩ : ByteArray)[kn]'h3) (n : Int) 9).set 9 84).set 9 116 by
              unfold textS
              rw [b1, b2, M9.out, b4]
              simp)
            have hs := own_string o1
            have fz1 := o0.frozenAt 9
            have cl1 := own_cell o0 9 (by simp [hlen])
            clear hown o0 o1
            go_wp2
            go_ret
            exact ⟨by rw [Ht.out]; rfl, by rw [HB.out]; exact ((hbel.setCell (p := ⟨g, 9, none⟩) hg _).setCell (p := ⟨g, 9, none⟩) hg _)⟩
      · cases b3 : (bits .and .i64 (n : Int) 64 != 0)
        · skip
          cases b2 : (bits .and .i64 (n : Int) 512 != 0)
          · skip
            have o0 := own_storeI hown 3 83 83 rfl
            have Ht := Lib.hid (show textS ((⟨#[45, 100, 99]⟩ : ByteArray)[kn]'h3) (n : Int) = (textB ((⟨#[45, 100, 99]⟩ : ByteArray)[kn]'h3) (n : Int) 9).set 3 83 by
              unfold textS
              rw [b1, b2, M3.out, b3]
              rfl)
            have hs := own_string o0
            clear hown o0
            go_wp2
            go_ret
            exact ⟨by rw [Ht.out]; rfl, by rw [HB.out]; exact (hbel.setCell (p := ⟨g, 3, none⟩) hg _)⟩
          · cases b4 : (bits .and .i64 (n : Int) 1 != 0)
            · skip
              have o0 := own_storeI hown 3 83 83 rfl
              have o1 := own_storeI o0 9 84 84 rfl
              have Ht := Lib.hid (show textS ((⟨#[45, 100, 99]⟩ : ByteArray)[kn]'h3) (n : Int) = ((textB ((⟨#[45, 100, 99]⟩ : ByteArray)[kn]'h3) (n : Int) 9).set 3 83).set 9 84 by
                unfold textS
                rw [b1, b2, M3.out, b3, M9.out, b4]
                rfl)
              have hs := own_string o1
              have fz1 := o0.frozenAt 9
              have cl1 := own_cell o0 9 (by simp [hlen])
              clear hown o0 o1
              go_wp2
              go_ret
              exact ⟨by rw [Ht.out]; rfl, by rw [HB.out]; exact ((hbel.setCell (p := ⟨g, 3, none⟩) hg _).setCell (p := ⟨g, 9, none⟩) hg _)⟩
            · skip
              have o0 := own_storeI hown 3 83 83 rfl
              have o1 := own_storeI o0 9 84 84 rfl
              have o2 := own_storeI o1 9 116 116 rfl
              have Ht := Lib.hid (show textS ((⟨#[45, 100, 99]⟩ : ByteArray)[kn]'h3) (n : Int) = (((textB ((⟨#[45, 100, 99]⟩ : ByteArray)[kn]'h3) (n : Int) 9).set 3 83).set 9 84).set 9 116 by
                unfold textS
                rw [b1, b2, M3.out, b3, M9.out, b4]
                simp)
              have hs := own_string o2
              have fz1 := o0.frozenAt 9
              have cl1 := own_cell o0 9 (by simp [hlen])
              have fz2 := o1.frozenAt 9
              have cl2 := own_cell o1 9 (by simp [hlen])
              clear hown o0 o1 o2
              go_wp2
              go_ret
              exact ⟨by rw [Ht.out]; rfl, by rw [HB.out]; exact (((hbel.setCell (p := ⟨g, 3, none⟩) hg _).setCell (p := ⟨g, 9, none⟩) hg _).setCell (p := ⟨g, 9, none⟩) hg _)⟩
        · skip
          cases b2 : (bits .and .i64 (n : Int) 512 != 0)
          · skip
            have o0 := own_storeI hown 3 83 83 rfl
            have o1 := own_storeI o0 3 115 115 rfl
            have Ht := Lib.hid (show textS ((⟨#[45, 100, 99]⟩ : ByteArray)[kn]'h3) (n : Int) = ((textB ((⟨#[45, 100, 99]⟩ : ByteArray)[kn]'h3) (n : Int) 9).set 3 83).set 3 115 by
              unfold textS
              rw [b1, b2, M3.out, b3]
              simp)
            have hs := own_string o1
            have fz1 := o0.frozenAt 3
            have cl1 := own_cell o0 3 (by simp [hlen])
            clear hown o0 o1
            go_wp2
            go_ret
            exact ⟨by rw [Ht.out]; rfl, by rw [HB.out]; exact ((hbel.setCell (p := ⟨g, 3, none⟩) hg _).setCell (p := ⟨g, 3, none⟩) hg _)⟩
          · cases b4 : (bits .and .i64 (n : Int) 1 != 0)
            · skip
              have o0 := own_storeI hown 3 83 83 rfl
              have o1 := own_storeI o0 3 115 115 rfl
              have o2 := own_storeI o1 9 84 84 rfl
              have Ht := Lib.hid (show textS ((⟨#[45, 100, 99]⟩ : ByteArray)[kn]'h3) (n : Int) = (((textB ((⟨#[45, 100, 99]⟩ : ByteArray)[kn]'h3) (n : Int) 9).set 3 83).set 3 115).set 9 84 by
                unfold textS
                rw [b1, b2, M3.out, b3, M9.out, b4]
                simp)
              have hs := own_string o2
              have fz1 := o0.frozenAt 3
              have cl1 := own_cell o0 3 (by simp [hlen])
              have fz2 := o1.frozenAt 9
              have cl2 := own_cell o1 9 (by simp [hlen])
              clear hown o0 o1 o2
              go_wp2
              go_ret
              exact ⟨by rw [Ht.out]; rfl, by rw [HB.out]; exact (((hbel.setCell (p := ⟨g, 3, none⟩) hg _).setCell (p := ⟨g, 3, none⟩) hg _).setCell (p := ⟨g, 9, none⟩) hg _)⟩
            · skip
              have o0 := own_storeI hown 3 83 83 rfl
              have o1 := own_storeI o0 3 115 115 rfl
              have o2 := own_storeI o1 9 84 84 rfl
              have o3 := own_storeI o2 9 116 116 rfl
              have Ht := Lib.hid (show textS ((⟨#[45, 100, 99]⟩ : ByteArray)[kn]'h3) (n : Int) = ((((textB ((⟨#[45, 100, 99]⟩ : ByteArray)[kn]'h3) (n : Int) 9).set 3 83).set 3 115).set 9 84).set 9 116 by
                unfold textS
                rw [b1, b2, M3.out, b3, M9.out, b4]
                simp)
              have hs := own_string o3
              have fz1 := o0.frozenAt 3
              have cl1 := own_cell o0 3 (by simp [hlen])
              have fz2 := o1.frozenAt 9
              have cl2 := own_cell o1 9 (by simp [hlen])
              have fz3 := o2.frozenAt 9
              have cl3 := own_cell o2 9 (by simp [hlen])
              clear hown o0 o1 o2 o3
              go_wp2
              go_ret
              exact ⟨by rw [Ht.out]; rfl, by rw [HB.out]; exact ((((hbel.setCell (p := ⟨g, 3, none⟩) hg _).setCell (p := ⟨g, 3, none⟩) hg _).setCell (p := ⟨g, 9, none⟩) hg _).setCell (p := ⟨g, 9, none⟩) hg _)⟩
end Go.Proofs.Ytmjjhoaplcjjcaa
