/- A script in lines: the law's walk. -/
import Derived.Test.YtoahgblgchmclaaQE
import Derived.Test.YtoahgblgchmclaaQG
import Derived.Test.YtoahgblgchmclaaRE
namespace Go.Proofs.Ytoahgblgchmclaa
open Go.RowKit
set_option linter.unusedVariables false
set_option linter.unusedSimpArgs false
/-- Parse, whatever it answers. -/
theorem parse_gen (s : ByteArray) (hs : s.size ≤ maxLen) (ns : List Nd) (k : Nat) (c : Int) (h : parseA s.data.toList = (ns, k, c)) (W : World) :
    Calls Try.prog 9 #[.string s] W fun e w' => ∃ ao cap K, e = .returned (.tuple #[.slice ao ns.length cap, .int .i64 k, .int .i64 c]) ∧ Nds w' K (.slice ao ns.length cap) ns ∧ (0 < ns.length → ∃ g, ao = some ⟨g, 0, none⟩) ∧ Fr (fun _ => False) W w' := by
  refine (parse_any s hs W).mono ?_
  rw [h]
  rintro e w' ⟨v, K, rfl, hN, hK, hv, hF⟩
  obtain ⟨cs, h1, _⟩ := id hN
  obtain ⟨ao, cap, rfl, hc, _, h5⟩ := ownz_form h1
  exact ⟨ao, cap, K, rfl, hN, h5, hF⟩
theorem parseA_len {l : Bs} {ns : List Nd} {k : Nat} {c : Int} (h : parseA l = (ns, k, c)) : ns.length ≤ 300 := by
  rcases parseA_cases l with ⟨k', c', hA, _⟩ | ⟨ts, ns', bs, _, _, hA, _, hl, _⟩
  · rw [h] at hA; injection hA with h1; rw [h1]; simp
  · rw [h] at hA; injection hA with h1; rw [h1]; exact hl
set_option maxRecDepth 100000 in
set_option maxHeartbeats 32000000 in
theorem lines_any (s t : ByteArray) (W : World) (hs : s.size ≤ maxLen) (ht : t.size ≤ maxLen) :
    Calls Try.prog 5 #[.string s, .string t] W fun e w' => e = .returned (.bool true) ∧ Below W.heap.size W w' := by
  have HS := Lib.hid pshown_any
  unfold maxLen at hs ht
  by_cases hb1 : 1000 < s.size
  · go_enter Try.func5, Try.ntmps5
    go_wp2_with (go_at_call 8; (with_reducible refine (HS.out _).mono ?_); rintro e w1 ⟨rfl, hF1⟩; have HF1 := Lib.hid hF1; clear hF1)
    go_ret
    exact ⟨rfl, HF1.out.bel (fun _ h => h.elim) (Nat.le_refl _)⟩
  by_cases hb2 : 1000 < t.size
  · go_enter Try.func5, Try.ntmps5
    go_wp2_with (go_at_call 8; (with_reducible refine (HS.out _).mono ?_); rintro e w1 ⟨rfl, hF1⟩; have HF1 := Lib.hid hF1; clear hF1)
    go_ret
    exact ⟨rfl, HF1.out.bel (fun _ h => h.elim) (Nat.le_refl _)⟩
  obtain ⟨x, k1, c1, hx⟩ : ∃ x k c, parseA s.data.toList = (x, k, c) := ⟨_, _, _, rfl⟩
  obtain ⟨y, k2, c2, hy⟩ : ∃ x k c, parseA t.data.toList = (x, k, c) := ⟨_, _, _, rfl⟩
  obtain ⟨z, k3, c3, hz⟩ : ∃ x k c, parseA (s.data.toList ++ 10 :: t.data.toList) = (x, k, c) := ⟨_, _, _, rfl⟩
  have hcat : (s ++ (⟨#[10]⟩ : ByteArray) ++ t).data.toList = s.data.toList ++ 10 :: t.data.toList := by
    rw [ByteArray.data_append, ByteArray.data_append, Array.toList_append, Array.toList_append]
    simp
  have C1 := Lib.hid (parse_gen s (by unfold maxLen; omega) x k1 c1 hx)
  have C2 := Lib.hid (parse_gen t (by unfold maxLen; omega) y k2 c2 hy)
  have hszc : (s ++ (⟨#[10]⟩ : ByteArray) ++ t).size ≤ 2001 := by
    rw [← size_len, hcat, List.length_append, List.length_cons, size_len, size_len]; omega
  have C3 := Lib.hid (parse_gen (s ++ (⟨#[10]⟩ : ByteArray) ++ t) (by unfold maxLen; omega) z k3 c3 (by rw [hcat]; exact hz))
  have lx := parseA_len hx
  have ly := parseA_len hy
  have lz := parseA_len hz
  have HP := Lib.hid (show c1 = 0 → c2 = 0 → 0 < x.length → 0 < y.length → (∀ i, i + 1 = s.data.toList.length → ¬ s.data.toList.getD i 0 = 92) → (z = [] ∧ c3 = 12) ∨ (c3 = 0 ∧ ∃ z' w, z = z' ++ [w] ∧ w.kind = 6 ∧ x.length ≤ z'.length + 1 ∧ z'.length ≤ x.length + y.length) from by
    intro e1 e2 hx0 hy0 h92
    subst e1; subst e2
    have hk1 : k1 = 0 := by
      rcases parseA_cases s.data.toList with ⟨k', c', hA, hc, _⟩ | ⟨ts, ns', bs, _, _, hA, _⟩
      · rw [hx] at hA; injection hA with h1 h2; injection h2 with h2 h3; exact absurd h3.symm hc
      · rw [hx] at hA; injection hA with h1 h2; injection h2
    have hk2 : k2 = 0 := by
      rcases parseA_cases t.data.toList with ⟨k', c', hA, hc, _⟩ | ⟨ts, ns', bs, _, _, hA, _⟩
      · rw [hy] at hA; injection hA with h1 h2; injection h2 with h2 h3; exact absurd h3.symm hc
      · rw [hy] at hA; injection hA with h1 h2; injection h2
    rw [hk1] at hx
    rw [hk2] at hy
    rcases lines_all hx hx0 hy hy0 h92 (by rw [size_len, size_len]; omega) with ⟨q, h⟩ | ⟨z', w, h1, h2, h3, h⟩
    · rw [hz] at h; injection h with h4 h5; injection h5 with h5 h6
      exact .inl ⟨h4, h6⟩
    · rw [hz] at h; injection h with h4 h5; injection h5 with h5 h6
      exact .inr ⟨h6, z', w, h4, h1, h2, h3⟩)
  have hsz0 : 0 < x.length → 0 < s.size := by
    intro h
    refine Nat.pos_of_ne_zero fun hz0 => ?_
    have hnil : s.data.toList = [] := List.eq_nil_of_length_eq_zero (by rw [size_len]; exact hz0)
    have hp0 : parseA [] = ([], 0, 0) := by kernel_rfl
    rw [hnil, hp0] at hx
    injection hx with h1
    rw [← h1] at h
    simp at h
  clear hx hy hz hcat hszc
  go_enter Try.func5, Try.ntmps5
  go_upto_region 7 with (first
    | (go_at_call 8; (with_reducible refine (HS.out _).mono ?_); rintro e w1 ⟨rfl, hF1⟩; have HF1 := Lib.hid hF1; clear hF1)
    | (go_at_call 9; (with_reducible refine (C1.out _).mono ?_); rintro e w2 ⟨ao1, cap1, K1, rfl, _, _, hF2⟩; have HF2 := Lib.hid (HF1.out.trans hF2); clear hF2)
    | (go_at_call 9; (with_reducible refine (C2.out _).mono ?_); rintro e w3 ⟨ao2, cap2, K2, rfl, _, _, hF3⟩; have HF3 := Lib.hid (HF2.out.trans hF3); clear hF3)
    | (go_at_call 9; (with_reducible refine (C3.out _).mono ?_); rintro e w4 ⟨ao3, cap3, K3, rfl, hN4, hao4, hF4⟩; have HN4 := Lib.hid hN4; have HAO := Lib.hid hao4; have HF4 := Lib.hid (HF3.out.trans hF4); clear hF4 hN4 hao4))
  have HFIN := Lib.hid (show Below W.heap.size W w4 from HF4.out.bel (fun _ h => h.elim) (Nat.le_refl _))
  by_cases e1 : c1 = 0
  rotate_left
  · have g1 : (((c1 : Int) != 0) : Bool) = true := by rw [bne_iff_ne]; exact e1
    clear e1
    go_wp2
    go_ret
    exact ⟨rfl, HFIN.out⟩
  by_cases e2 : c2 = 0
  rotate_left
  · have g2 : (((c2 : Int) != 0) : Bool) = true := by rw [bne_iff_ne]; exact e2
    subst e1
    clear e2
    go_wp2
    go_ret
    exact ⟨rfl, HFIN.out⟩
  by_cases e3 : x.length = 0
  · subst e1; subst e2
    rw [e3]
    go_wp2
    go_ret
    exact ⟨rfl, HFIN.out⟩
  by_cases e4 : y.length = 0
  · subst e1; subst e2
    rw [e4]
    have g3 : (((x.length : Int) == 0) : Bool) = false := by rw [beq_eq_false_iff_ne]; omega
    go_wp2
    go_ret
    exact ⟨rfl, HFIN.out⟩
  have HP2 := Lib.hid (HP.out e1 e2 (by omega) (by omega))
  have hsz : 0 < s.size := hsz0 (by omega)
  subst e1; subst e2
  have g3 : (((x.length : Int) == 0) : Bool) = false := by rw [beq_eq_false_iff_ne]; omega
  have g4 : (((y.length : Int) == 0) : Bool) = false := by rw [beq_eq_false_iff_ne]; omega
  have hlast : ∀ i, i + 1 = s.data.toList.length → s.data.toList.getD i 0 = s[s.size - 1]'(by omega) := by
    intro i hi
    rw [size_len] at hi
    obtain rfl : i = s.size - 1 := by omega
    rw [List.getD_eq_getElem?_getD, List.getElem?_eq_getElem (by rw [size_len]; omega)]
    rfl
  have HLAST := Lib.hid hlast
  clear HP hlast hsz0
  by_cases h92 : s[s.size - 1]'(by omega) = 92
  · have hb : (((s[s.size - 1]'(by omega)).toNat : Int) == 92) = true := by rw [h92]; rfl
    clear h92
    go_wp2
    go_ret
    exact ⟨rfl, HFIN.out⟩
  · have hb : (((s[s.size - 1]'(by omega)).toNat : Int) == 92) = false := by
      rw [beq_eq_false_iff_ne]
      intro e
      exact h92 (UInt8.toNat_inj.1 (by show _ = 92; omega))
    have hp := HP2.out (fun i hi e => h92 (by rw [← HLAST.out i hi]; exact e))
    clear h92 HP2
    rcases hp with ⟨hz, hc⟩ | ⟨hc, z', w, hz, hw, hl1, hl2⟩
    · subst hz
      subst hc
      by_cases hlt : x.length + y.length < 295
      all_goals
        go_wp2
        go_ret
        exact ⟨rfl, HFIN.out⟩
    · subst hc
      have hzl : z.length = z'.length + 1 := by rw [hz]; simp
      have hkl : (z.getD z'.length (nd 0 [])).kind = 6 := by
        rw [hz, List.getD_eq_getElem?_getD, List.getElem?_append_right (Nat.le_refl _), Nat.sub_self]
        exact hw
      obtain ⟨g, rfl⟩ := HAO.out (by omega)
      obtain ⟨_, _, _, _, _, _, _, _, _, _, _, hcell⟩ := Nds.cell HN4.out rfl z'.length _ (get_getD (by omega))
      have qL : w4.cell? ⟨g, z'.length * 8, none⟩ = some (.int .i64 6) := by have := hcell 0 _ rfl; rw [hkl] at this; exact this
      clear hcell hz hw hkl
      rw [hzl]
      generalize z'.length = L at *
      have hL : L ≤ 299 := by omega
      by_cases hlt : x.length + y.length < 295
      all_goals
        go_wp2
        go_ret
        exact ⟨ret_bool (by simp; try omega), HFIN.out⟩
end Go.Proofs.Ytoahgblgchmclaa
