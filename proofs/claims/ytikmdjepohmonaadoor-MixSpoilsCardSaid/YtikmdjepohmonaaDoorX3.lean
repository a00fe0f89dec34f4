/- Walk of the law MixSpoils. -/
import Derived.Test.YtikmdjepohmonaaDoorX2
namespace Go.Proofs.YtikmdjepohmonaaDoor
open Go.RowKit

theorem at15 (a : Int) : ∃ q : Nat, bits .and .i64 a 15 = (q : Int) ∧ q < 16 := by
  have h : (a % 18446744073709551616).toNat &&& 15 = (a % 18446744073709551616).toNat % 16 := Nat.and_two_pow_sub_one_eq_mod _ 4
  refine ⟨(a % 18446744073709551616).toNat % 16, ?_, by omega⟩
  show IntKind.i64.wrap ((BitVec.ofInt 64 a &&& BitVec.ofInt 64 15).toNat : Int) = _
  rw [BitVec.toNat_and, toNat_ofInt, toNat_ofInt]
  rw [show ((15 : Int) % 18446744073709551616).toNat = 15 from rfl, h]
  rw [IntKind.wrap_i64]; omega
theorem conv_facts (w : World) (f : ByteArray) (h : f.size = 21) :
    ∃ (W : World) (g cap : Nat), (convert 9 30 (.string f)).run Tryd.prog w = .ok (.slice (some ⟨g, 0, none⟩) 21 cap) W ∧ (∀ j, j < 21 → W.cell? ⟨g, j, none⟩ = some (.int .u8 ((f.data.toList.getD j 0).toNat : Int))) ∧
      (∀ j, j < 21 → W.frozen? ⟨g, j, none⟩ = false) ∧ w.heap.size ≤ g ∧ g < W.heap.size ∧ Below w.heap.size w W := by
  refine ⟨Lib.bytesWorld w 5 f, w.heap.size, grownCap w f.size 0 5, ?_, fun j hj => Lib.bytesWorld_cell w 5 f j (by omega), fun j hj => ?_, Nat.le_refl _, by rw [Lib.bytesWorld_size]; omega, bytesWorld_below w 5 f⟩
  · have := Lib.run_convert_string_bytes (P := Tryd.prog) w 9 30 5 f (u := .string) Tryd.underlying9 Tryd.underlying30 Tryd.underlying5
    rw [h] at this ⊢; exact this
  · have hs : f.size ≤ (Lib.bytesCells w 5 f).size := by simp [Lib.bytesCells]
    simp [World.frozen?, Lib.bytesWorld_at_new]
    omega
theorem read_back (W : World) (g cap : Nat) (l : List UInt8) (hl : l.length = 21) (hc : ∀ j, j < 21 → W.cell? ⟨g, j, none⟩ = some (.int .u8 ((l.getD j 0).toNat : Int))) :
    (convert 30 9 (.slice (some ⟨g, 0, none⟩) 21 cap)).run Tryd.prog W = .ok (.string ⟨l.toArray⟩) W := by
  rw [← hl]
  refine run_convert_bytes_back W 30 9 5 ⟨g, 0, none⟩ cap l Tryd.underlying30 Tryd.underlying5 Tryd.underlying9 fun j hj => ?_
  rw [Addr.add_lit, Nat.zero_add, hc j (by omega), List.getD_eq_getElem?_getD, List.getElem?_eq_getElem hj]; rfl
theorem ok_set (l : List UInt8) (k : Nat) (c : UInt8) (hk : 5 ≤ k) (hl : k < l.length) (j : Nat) : okAt (l.set k c) j = if j = k then digB c else okAt l j := by
  unfold okAt
  rw [List.getD_eq_getElem?_getD, List.getD_eq_getElem?_getD, List.getElem?_set]
  by_cases h : k = j
  · subst h; rw [if_pos rfl, if_pos rfl, if_neg (by omega), if_pos hl]; rfl
  · rw [if_neg h, if_neg (show ¬ j = k from fun e => h e.symm)]
theorem spoil_form (salt : Int) (p : List UInt8) (k : Nat) (c : UInt8) (hk : 5 ≤ k) (hk2 : k < 21) : formB ((fieldS salt p).set k c) = digB c := by
  have hl := field_len salt p
  have ho := ((form_iff _).1 (field_form salt p)).2
  cases h : digB c
  · exact form_no _ k hk2 (by rw [ok_set _ _ _ hk (by omega), if_pos rfl, h])
  · rw [form_iff]
    refine ⟨by rw [List.length_set, hl], fun j hj => ?_⟩
    rw [ok_set _ _ _ hk (by omega)]
    by_cases e : j = k
    · rw [if_pos e, h]
    · rw [if_neg e]; exact ho j hj
theorem spoil_right (salt : Int) (p : List UInt8) (k : Nat) (c : UInt8) (hk : 5 ≤ k) (hk2 : k < 21) : rightS ((fieldS salt p).set k c) = digB c := by
  have hl : ((fieldS salt p).set k c).length = 21 := by rw [List.length_set]; exact field_len salt p
  unfold rightS
  rw [spoil_form salt p k c hk hk2]
  rw [beq_eq_false_iff_ne.2 (fun e => by rw [e] at hl; cases hl), beq_eq_false_iff_ne.2 (fun e => by rw [e] at hl; cases hl)]; rfl
theorem spoil_match (salt : Int) (p : List UInt8) (k : Nat) (c x : UInt8) (hk : 5 ≤ k) (hk2 : k < 21) (hx : (fieldS salt p).getD k 0 = x) (hne : x ≠ c) : matchS ((fieldS salt p).set k c) p = false := by
  have hl : ((fieldS salt p).set k c).length = 21 := by rw [List.length_set]; exact field_len salt p
  have hl0 := field_len salt p
  unfold matchS
  rw [if_neg (fun e => by rw [e] at hl; cases hl)]
  by_cases hf : formB ((fieldS salt p).set k c) = true
  · rw [if_pos hf, beq_eq_false_iff_ne]
    have ht : ((fieldS salt p).set k c).take 4 = (fieldS salt p).take 4 := by rw [List.take_set, List.set_eq_of_length_le (by simp; omega)]
    rw [ht, field_val, field_salt (saltS salt) salt p (salt_salt salt)]
    intro e
    have h2 : (fieldS salt p).getD k 0 = ((fieldS salt p).set k c).getD k 0 := by rw [← e]
    rw [hx, List.getD_eq_getElem?_getD, List.getElem?_set, if_pos rfl, if_pos (by omega)] at h2
    exact hne h2
  · rw [if_neg hf]
theorem set_cells (W : World) (g k : Nat) (l : List UInt8) (c : UInt8) (hl : l.length = 21) (hk : k < 21) (hc : ∀ j, j < 21 → W.cell? ⟨g, j, none⟩ = some (.int .u8 ((l.getD j 0).toNat : Int))) :
    ∀ j, j < 21 → (W.setCell ⟨g, k, none⟩ (.int .u8 (c.toNat : Int))).cell? ⟨g, j, none⟩ = some (.int .u8 (((l.set k c).getD j 0).toNat : Int)) := by
  intro j hj
  rw [List.getD_eq_getElem?_getD, List.getElem?_set]
  by_cases h : k = j
  · subst h
    rw [if_pos rfl, if_pos (by omega)]
    exact World.cell?_setCell_same _ _ _ (hc k hk)
  · rw [if_neg h, ← List.getD_eq_getElem?_getD, ← hc j hj]
    exact World.cell?_setCell_other _ _ _ _ (fun e => h (by injection e))
theorem dig_split (c : UInt8) : digB c = true ↔ (48 ≤ c.toNat ∧ c.toNat ≤ 57) ∨ (97 ≤ c.toNat ∧ c.toNat ≤ 102) := by
  unfold digB
  by_cases h : 48 ≤ c.toNat ∧ c.toNat ≤ 57
  · rw [dig_lo c h.1 h.2]; simp [h]
  · by_cases h2 : 97 ≤ c.toNat ∧ c.toNat ≤ 102
    · rw [dig_hi c h2.1 h2.2]; simp [h2]
    · rw [dig_no c h h2]; simp [h, h2]
theorem spoil_below {w W : World} {g k : Nat} {u : Value} (h : Below w.heap.size w W) {n : Nat} (hg : n ≤ g) (hn : w.heap.size ≤ n) : Below w.heap.size w (W.setCell ⟨g, k, none⟩ u) :=
  h.setCell (p := ⟨g, k, none⟩) (Nat.le_trans hn hg) u
theorem spoil_size {W : World} {g k : Nat} {u : Value} (h : g < W.heap.size) : g < (W.setCell ⟨g, k, none⟩ u).heap.size :=
  Nat.lt_of_lt_of_le h ((Below.refl 0 W).setCell (p := ⟨g, k, none⟩) (Nat.zero_le _) u).size
theorem read_at (W : World) (g cap : Nat) (f : ByteArray) (l : List UInt8) (hl : l.length = 21) (hf : f = ⟨l.toArray⟩) (hc : ∀ j, j < 21 → W.cell? ⟨g, j, none⟩ = some (.int .u8 ((l.getD j 0).toNat : Int))) :
    (convert 30 9 (.slice (some ⟨g, 0, none⟩) 21 cap)).run Tryd.prog W = .ok (.string f) W := by
  rw [hf]; exact read_back W g cap l hl hc
set_option maxHeartbeats 3200000 in
theorem spoils_walk (salt : Int) (p : ByteArray) (at0 : Int) (c : UInt8) (hp0 : p.size ≤ 140737488351232) (w : World) :
    Calls Tryd.prog 6 #[.int .i64 salt, .string p, .int .i64 at0, .int .u8 (c.toNat : Int)] w fun e w' => e = .returned (.bool true) ∧ Below w.heap.size w w' := by
  have hp := small_max p hp0
  by_cases h2 : 2000 < p.size
  · go_enter Tryd.func6, Tryd.ntmps6
    go_wp2_with (go_at_call 9; refine (shown_any _).mono ?_; rintro e w1 ⟨rfl, hb1⟩)
    go_ret
    exact ⟨rfl, hb1⟩
  · obtain ⟨q, hq, hq16⟩ := at15 at0
    obtain ⟨f, hf⟩ : ∃ f : ByteArray, f = ⟨(fieldS salt p.data.toList).toArray⟩ := ⟨_, rfl⟩
    have hfl : f.data.toList = fieldS salt p.data.toList := by rw [hf]
    have hfs : f.size = 21 := by have := field_len salt p.data.toList; rw [← hfl] at this; simpa using this
    have hlen : f.data.toList.length = 21 := by simp; omega
    obtain ⟨x, hx⟩ : ∃ x, f.data.toList.getD (5 + q) 0 = x := ⟨_, rfl⟩
    have Hf := Lib.hid hf
    have Hx := Lib.hid hx
    have Hlen := Lib.hid hlen
    by_cases hxc : x = c
    · have hxc' : (((x.toNat : Int) == (c.toNat : Int)) : Bool) = true := u8_true _ _ hxc
      clear hf hfl hx hlen
      go_enter Tryd.func6, Tryd.ntmps6
      go_wp2_with (first | (go_at_call 9; refine (shown_any _).mono ?_; rintro e w1 ⟨rfl, hb1⟩) | (go_at_call 12; refine (field_at salt p f hp Hf.out _).mono ?_; rintro e w2 ⟨rfl, hb2⟩; obtain ⟨W2, g, cap, hcv, hB, hZ, hgb, hgs, hbW⟩ := conv_facts w2 f hfs; have hck := hB (5 + q) (by omega); rw [Hx.out] at hck; clear hB hZ))
      go_ret
      exact ⟨rfl, next (next hb1 hb2) hbW⟩
    · have hxc' : (((x.toNat : Int) == (c.toNat : Int)) : Bool) = false := u8_false _ _ hxc
      obtain ⟨f2, hf2⟩ : ∃ f2 : ByteArray, f2 = ⟨(f.data.toList.set (5 + q) c).toArray⟩ := ⟨_, rfl⟩
      have hf2l : f2.data.toList = f.data.toList.set (5 + q) c := by rw [hf2]
      have Hm := Lib.hid (show matchS f2.data.toList p.data.toList = false by rw [hf2l, hfl]; exact spoil_match salt _ (5 + q) c x (by omega) (by omega) (by rw [← hfl]; exact hx) hxc)
      have Hr := Lib.hid (show rightS f2.data.toList = digB c by rw [hf2l, hfl]; exact spoil_right salt _ (5 + q) c (by omega) (by omega))
      have Hf2 := Lib.hid hf2
      clear hf hfl hx hlen hf2 hf2l
      by_cases d1 : 48 ≤ c.toNat ∧ c.toNat ≤ 57
      · have Hd := Lib.hid ((dig_split c).2 (Or.inl d1))
        have HrD := Lib.hid (show rightS f2.data.toList = true by rw [Hr.out, Hd.out])
        clear Hr hxc
        go_enter Tryd.func6, Tryd.ntmps6
        go_wp2_with (first | (go_at_call 9; refine (shown_any _).mono ?_; rintro e w1 ⟨rfl, hb1⟩) | (go_at_call 12; refine (field_at salt p f hp Hf.out _).mono ?_; rintro e w2 ⟨rfl, hb2⟩; obtain ⟨W2, g, cap, hcv, hB, hZ, hgb, hgs, hbW⟩ := conv_facts w2 f hfs; have hck := hB (5 + q) (by omega); rw [Hx.out] at hck; have hzk := hZ (5 + q) (by omega); have hb3 := spoil_below (next (next hb1 hb2) hbW) hgb (next hb1 hb2).size (k := 5 + q) (u := .int .u8 (c.toNat : Int)); have HS := Lib.hid (set_cells W2 g (5 + q) f.data.toList c Hlen.out (by omega) hB); have hgs3 := spoil_size hgs (k := 5 + q) (u := .int .u8 (c.toNat : Int)); have hs3 := read_at _ g cap f2 (f.data.toList.set (5 + q) c) (by rw [List.length_set]; exact Hlen.out) Hf2.out HS.out; clear hB hZ) | (go_at_call 16; refine (matches_at f2 p false hp Hm.out _).mono ?_; rintro e w4 ⟨rfl, hb4⟩; have hs4 := read_at w4 g cap f2 (f.data.toList.set (5 + q) c) (by rw [List.length_set]; exact Hlen.out) Hf2.out (fun j hj => (hb4.cell (p := ⟨g, j, none⟩) hgs3).trans (HS.out j hj))) | (go_at_call 14; refine (right_at f2 true HrD.out _).mono ?_; rintro e w' ⟨rfl, rfl⟩))
        all_goals (go_ret; exact ⟨ret_bool (by try simp; try omega), hb3.trans (hb4.mono (hb3.size))⟩)
      · by_cases d2 : 97 ≤ c.toNat ∧ c.toNat ≤ 102
        · have Hd := Lib.hid ((dig_split c).2 (Or.inr d2))
          have HrD := Lib.hid (show rightS f2.data.toList = true by rw [Hr.out, Hd.out])
          clear Hr hxc
          go_enter Tryd.func6, Tryd.ntmps6
          go_wp2_with (first | (go_at_call 9; refine (shown_any _).mono ?_; rintro e w1 ⟨rfl, hb1⟩) | (go_at_call 12; refine (field_at salt p f hp Hf.out _).mono ?_; rintro e w2 ⟨rfl, hb2⟩; obtain ⟨W2, g, cap, hcv, hB, hZ, hgb, hgs, hbW⟩ := conv_facts w2 f hfs; have hck := hB (5 + q) (by omega); rw [Hx.out] at hck; have hzk := hZ (5 + q) (by omega); have hb3 := spoil_below (next (next hb1 hb2) hbW) hgb (next hb1 hb2).size (k := 5 + q) (u := .int .u8 (c.toNat : Int)); have HS := Lib.hid (set_cells W2 g (5 + q) f.data.toList c Hlen.out (by omega) hB); have hgs3 := spoil_size hgs (k := 5 + q) (u := .int .u8 (c.toNat : Int)); have hs3 := read_at _ g cap f2 (f.data.toList.set (5 + q) c) (by rw [List.length_set]; exact Hlen.out) Hf2.out HS.out; clear hB hZ) | (go_at_call 16; refine (matches_at f2 p false hp Hm.out _).mono ?_; rintro e w4 ⟨rfl, hb4⟩; have hs4 := read_at w4 g cap f2 (f.data.toList.set (5 + q) c) (by rw [List.length_set]; exact Hlen.out) Hf2.out (fun j hj => (hb4.cell (p := ⟨g, j, none⟩) hgs3).trans (HS.out j hj))) | (go_at_call 14; refine (right_at f2 true HrD.out _).mono ?_; rintro e w' ⟨rfl, rfl⟩))
          all_goals (go_ret; exact ⟨ret_bool (by try simp; try omega), hb3.trans (hb4.mono (hb3.size))⟩)
        · have Hd := Lib.hid (show digB c = false by rw [Bool.eq_false_iff]; intro h; exact ((dig_split c).1 h).elim d1 d2)
          have HrD := Lib.hid (show rightS f2.data.toList = false by rw [Hr.out, Hd.out])
          clear Hr hxc
          go_enter Tryd.func6, Tryd.ntmps6
          go_wp2_with (first | (go_at_call 9; refine (shown_any _).mono ?_; rintro e w1 ⟨rfl, hb1⟩) | (go_at_call 12; refine (field_at salt p f hp Hf.out _).mono ?_; rintro e w2 ⟨rfl, hb2⟩; obtain ⟨W2, g, cap, hcv, hB, hZ, hgb, hgs, hbW⟩ := conv_facts w2 f hfs; have hck := hB (5 + q) (by omega); rw [Hx.out] at hck; have hzk := hZ (5 + q) (by omega); have hb3 := spoil_below (next (next hb1 hb2) hbW) hgb (next hb1 hb2).size (k := 5 + q) (u := .int .u8 (c.toNat : Int)); have HS := Lib.hid (set_cells W2 g (5 + q) f.data.toList c Hlen.out (by omega) hB); have hgs3 := spoil_size hgs (k := 5 + q) (u := .int .u8 (c.toNat : Int)); have hs3 := read_at _ g cap f2 (f.data.toList.set (5 + q) c) (by rw [List.length_set]; exact Hlen.out) Hf2.out HS.out; clear hB hZ) | (go_at_call 16; refine (matches_at f2 p false hp Hm.out _).mono ?_; rintro e w4 ⟨rfl, hb4⟩; have hs4 := read_at w4 g cap f2 (f.data.toList.set (5 + q) c) (by rw [List.length_set]; exact Hlen.out) Hf2.out (fun j hj => (hb4.cell (p := ⟨g, j, none⟩) hgs3).trans (HS.out j hj))) | (go_at_call 14; refine (right_at f2 false HrD.out _).mono ?_; rintro e w' ⟨rfl, rfl⟩))
          all_goals (go_ret; exact ⟨ret_bool (by try simp; try omega), hb3.trans (hb4.mono (hb3.size))⟩)
theorem u8_of {a : Int} (h : (Lit.int .u8 a).wf = true) : ∃ c : UInt8, a = (c.toNat : Int) := by
  have hw : 0 ≤ a ∧ a < 256 := by
    have h' : IntKind.u8.min ≤ a ∧ a ≤ IntKind.u8.max := by simpa [Lit.wf] using h
    have e1 : IntKind.u8.min = 0 := by decide
    have e2 : IntKind.u8.max = 255 := by decide
    rw [e1, e2] at h'
    omega
  refine ⟨UInt8.ofNat a.toNat, ?_⟩
  rw [UInt8.toNat_ofNat']
  omega
end Go.Proofs.YtikmdjepohmonaaDoor
