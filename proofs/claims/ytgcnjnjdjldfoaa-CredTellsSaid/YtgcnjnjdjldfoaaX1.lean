/- The walks of CredDrops, CredLends, CredGroups and CredBounds. -/
import Derived.Test.YtgcnjnjdjldfoaaW4
import Derived.Laws.BitsAllLaws
import Derived.Laws.BitsLemmas
namespace Go.Proofs.Ytgcnjnjdjldfoaa
open Go.RowKit
set_option linter.unusedVariables false
set_option linter.unusedSimpArgs false

theorem toNat_ofInt (n : Int) : (BitVec.ofInt 64 n).toNat = (n % 18446744073709551616).toNat := by
  rw [BitVec.toNat_ofInt]; rfl
theorem mask_nat (m : Int) (k : Nat) (hk : k < 9223372036854775808) : ∃ n : Nat, n ≤ k ∧ bits .and .i64 m (k : Int) = (n : Int) := by
  refine ⟨(m % 18446744073709551616).toNat &&& k, Nat.and_le_right, ?_⟩
  have hle : (m % 18446744073709551616).toNat &&& k ≤ k := Nat.and_le_right
  show IntKind.i64.wrap ((BitVec.ofInt 64 m &&& BitVec.ofInt 64 (k : Int)).toNat : Int) = _
  rw [BitVec.toNat_and, toNat_ofInt, toNat_ofInt, show ((k : Int) % 18446744073709551616).toNat = k by omega, IntKind.wrap_i64]
  omega
theorem right_mk {r e s g x n : Int} (h : (0 ≤ r ∧ r ≤ 65535) ∧ (0 ≤ e ∧ e ≤ 65535) ∧ (0 ≤ s ∧ s ≤ 65535) ∧ (0 ≤ g ∧ g ≤ 65535) ∧ (0 ≤ x ∧ x ≤ 65535) ∧ (0 ≤ n ∧ n ≤ 65535)) : rightB ⟨r, e, s, g, x⟩ n = true := (right_iff ⟨r, e, s, g, x⟩ n).2 h
theorem of_ok {u g : Int} (h : (0 ≤ u ∧ u ≤ 65535) ∧ (0 ≤ g ∧ g ≤ 65535)) : ofP u g = (⟨u, u, u, g, g⟩, 0) := by
  unfold ofP
  rw [if_pos (by simp only [idsB, Bool.and_eq_true, id_iff]; exact ⟨h.1, h.2, trivial⟩)]
theorem suid_root {r s g x u : Int} (h : rightB ⟨r, 0, s, g, x⟩ u = true) : suidP ⟨r, 0, s, g, x⟩ u = (⟨u, u, u, g, x⟩, 0) := by
  unfold suidP; rw [if_pos h, if_pos rfl]
theorem suid_real {r e s g x : Int} (h : rightB ⟨r, e, s, g, x⟩ r = true) (h0 : ¬ e = 0) : suidP ⟨r, e, s, g, x⟩ r = (⟨r, r, s, g, x⟩, 0) := by
  unfold suidP; rw [if_pos h, if_neg h0, if_pos rfl]
theorem suid_saved {r e s g x : Int} (h : rightB ⟨r, e, s, g, x⟩ s = true) (h0 : ¬ e = 0) : suidP ⟨r, e, s, g, x⟩ s = (⟨r, s, s, g, x⟩, 0) := by
  unfold suidP; rw [if_pos h, if_neg h0]; by_cases k : s = r
  · rw [if_pos k]
  · rw [if_neg k, if_pos rfl]
theorem suid_not {r e s g x u : Int} (h : rightB ⟨r, e, s, g, x⟩ u = true) (h0 : ¬ e = 0) (h1 : ¬ u = r) (h2 : ¬ u = s) : suidP ⟨r, e, s, g, x⟩ u = (⟨0, 0, 0, 0, 0⟩, 2) := by
  unfold suidP; rw [if_pos h, if_neg h0, if_neg h1, if_neg h2]; rfl
theorem suid_bad {r e s g x u : Int} (h : rightB ⟨r, e, s, g, x⟩ u = false) : suidP ⟨r, e, s, g, x⟩ u = (⟨0, 0, 0, 0, 0⟩, 1) := by
  unfold suidP; rw [h, if_neg Bool.false_ne_true]; rfl
theorem sgid_root {r s g x n : Int} (h : rightB ⟨r, 0, s, g, x⟩ n = true) : sgidP ⟨r, 0, s, g, x⟩ n = (⟨r, 0, s, n, n⟩, 0) := by
  unfold sgidP; rw [if_pos h, if_pos rfl]
theorem sgid_same {r e s g x : Int} (h : rightB ⟨r, e, s, g, x⟩ g = true) (h0 : ¬ e = 0) : sgidP ⟨r, e, s, g, x⟩ g = (⟨r, e, s, g, g⟩, 0) := by
  unfold sgidP; rw [if_pos h, if_neg h0, if_pos rfl]
theorem sgid_not {r e s g x n : Int} (h : rightB ⟨r, e, s, g, x⟩ n = true) (h0 : ¬ e = 0) (h1 : ¬ n = g) : sgidP ⟨r, e, s, g, x⟩ n = (⟨0, 0, 0, 0, 0⟩, 2) := by
  unfold sgidP; rw [if_pos h, if_neg h0, if_neg h1]; rfl
theorem sgid_bad {r e s g x u : Int} (h : rightB ⟨r, e, s, g, x⟩ u = false) : sgidP ⟨r, e, s, g, x⟩ u = (⟨0, 0, 0, 0, 0⟩, 1) := by
  unfold sgidP; rw [h, if_neg Bool.false_ne_true]; rfl
theorem exec_set {r e s g x m o : Int} (h : rightB ⟨r, e, s, g, x⟩ o = true) (hm : (bits .and .i64 m 2048 != 0) = true) : execP ⟨r, e, s, g, x⟩ m o = (⟨r, o, o, g, x⟩, 0) := by
  unfold execP effP; rw [if_pos h, if_pos hm]
theorem exec_plain {r e s g x m o : Int} (h : rightB ⟨r, e, s, g, x⟩ o = true) (hm : (bits .and .i64 m 2048 != 0) = false) : execP ⟨r, e, s, g, x⟩ m o = (⟨r, e, e, g, x⟩, 0) := by
  unfold execP effP; rw [if_pos h, hm, if_neg Bool.false_ne_true]
theorem exec_bad {r e s g x m o : Int} (h : rightB ⟨r, e, s, g, x⟩ o = false) : execP ⟨r, e, s, g, x⟩ m o = (⟨0, 0, 0, 0, 0⟩, 1) := by
  unfold execP; rw [h, if_neg Bool.false_ne_true]; rfl
theorem eqC_refl (c : Crd) : eqC c c = true := (eqC_iff c c).2 rfl
set_option maxHeartbeats 2000000 in
theorem drops_walk (a0 a1 a2 : Int) (w : World) : Calls Try.prog 5 #[.int .i64 a0, .int .i64 a1, .int .i64 a2] w fun v w' => v = .returned (.bool true) ∧ Below w.heap.size w w' := by
  obtain ⟨r, hr, hMr⟩ := mask_nat a0 32767 (by decide)
  have hMr' : bits .and .i64 a0 32767 = (r : Int) := hMr
  clear hMr
  obtain ⟨u, hu, hMu⟩ := mask_nat a1 32767 (by decide)
  have hMu' : bits .and .i64 a1 32767 = (u : Int) := hMu
  clear hMu
  obtain ⟨g, hg, hMg⟩ := mask_nat a2 32767 (by decide)
  have hMg' : bits .and .i64 a2 32767 = (g : Int) := hMg
  clear hMg
  have H1 := Lib.hid (sgid_root (r := (r : Int)) (s := 0) (g := 3) (x := 4) (n := (g : Int)) (right_mk (by omega)))
  have H2 := Lib.hid (suid_root (r := (r : Int)) (s := 0) (g := (g : Int)) (x := (g : Int)) (u := 1 + (u : Int)) (right_mk (by omega)))
  have H3 := Lib.hid (suid_not (r := 1 + (u : Int)) (e := 1 + (u : Int)) (s := 1 + (u : Int)) (g := (g : Int)) (x := (g : Int)) (u := 0) (right_mk (by omega)) (by omega) (by omega) (by omega))
  have H4 := Lib.hid (of_ok (u := 1 + (u : Int)) (g := (g : Int)) (by omega))
  go_enter Try.func5, Try.ntmps5
  go_wp2_with fail
  refine (shown_any _).mono ?_
  rintro e w1 ⟨rfl, hb1⟩
  have hB1 := hb1
  have hs1 := hb1.size
  go_wp2_with fail
  refine (sgid_at _ _ _ _ _ _ _ _ _ _ _ _ H1.out _).mono ?_
  rintro e w2 ⟨rfl, hb2⟩
  obtain ⟨hB2, hs2, hz2⟩ := next hB1 hs1 hb2
  have Kc2 := (CAt.new w1 ((r : Int)) (0) (0) (3) (4)).below hb2 (by simp)
  obtain ⟨cc0, cc1, cc2, cc3, cc4⟩ := Kc2.cells
  obtain ⟨cf0, cf1, cf2, cf3, cf4⟩ := Kc2.frozens
  have ltc2 := Kc2.lt
  replace Kc2 := Lib.hid Kc2
  clear hb2
  go_wp2_with fail
  refine (suid_at _ _ _ _ _ _ _ _ _ _ _ _ H2.out _).mono ?_
  rintro e w3 ⟨rfl, hb3⟩
  obtain ⟨hB3, hs3, hz3⟩ := nextS hB2 hs2 (show w.heap.size ≤ w1.heap.size by omega) hb3
  have Kc3 := (Kc2.out.set5 ((r : Int)) (0) (0) ((g : Int)) ((g : Int))).below hb3 (by have := Kc2.out.lt; simpa using this)
  clear cc0 cc1 cc2 cc3 cc4 cf0 cf1 cf2 cf3 cf4
  obtain ⟨cc0, cc1, cc2, cc3, cc4⟩ := Kc3.cells
  obtain ⟨cf0, cf1, cf2, cf3, cf4⟩ := Kc3.frozens
  have ltc3 := Kc3.lt
  replace Kc3 := Lib.hid Kc3
  clear hb3
  go_wp2_with fail
  refine (suid_at _ _ _ _ _ _ _ _ _ _ _ _ H3.out _).mono ?_
  rintro e w4 ⟨rfl, hb4⟩
  obtain ⟨hB4, hs4, hz4⟩ := nextS hB3 hs3 (show w.heap.size ≤ w1.heap.size by omega) hb4
  have Kc4 := (Kc3.out.set5 (1 + (u : Int)) (1 + (u : Int)) (1 + (u : Int)) ((g : Int)) ((g : Int))).below hb4 (by have := Kc3.out.lt; simpa using this)
  clear cc0 cc1 cc2 cc3 cc4 cf0 cf1 cf2 cf3 cf4
  obtain ⟨cc0, cc1, cc2, cc3, cc4⟩ := Kc4.cells
  obtain ⟨cf0, cf1, cf2, cf3, cf4⟩ := Kc4.frozens
  have ltc4 := Kc4.lt
  replace Kc4 := Lib.hid Kc4
  clear hb4
  go_wp2_with fail
  refine (of_at _ _ _ _ _ _ _ _ H4.out _).mono ?_
  rintro e w5 ⟨rfl, hb5⟩
  obtain ⟨hB5, hs5, hz5⟩ := next hB4 hs4 hb5
  have Kc5 := (Kc4.out.alloc _).below hb5 (by have := Kc4.out.lt; simp; omega)
  have Kz5 := (CAt.new w4 (0) (0) (0) (0) (0)).below hb5 (by simp)
  clear cc0 cc1 cc2 cc3 cc4 cf0 cf1 cf2 cf3 cf4
  obtain ⟨cc0, cc1, cc2, cc3, cc4⟩ := Kc5.cells
  obtain ⟨cf0, cf1, cf2, cf3, cf4⟩ := Kc5.frozens
  have ltc5 := Kc5.lt
  replace Kc5 := Lib.hid Kc5
  obtain ⟨zc0, zc1, zc2, zc3, zc4⟩ := Kz5.cells
  obtain ⟨zf0, zf1, zf2, zf3, zf4⟩ := Kz5.frozens
  have ltz5 := Kz5.lt
  replace Kz5 := Lib.hid Kz5
  clear hb5
  have q1 := eq_at (1 + (u : Int)) (1 + (u : Int)) (1 + (u : Int)) (g : Int) (g : Int) (1 + (u : Int)) (1 + (u : Int)) (1 + (u : Int)) (g : Int) (g : Int) true (eqC_refl _)
  have q2 := fun op a b => guard_at op a b (1 + (u : Int)) (1 + (u : Int)) (1 + (u : Int)) (g : Int) (g : Int) (1 + (u : Int)) (1 + (u : Int)) (1 + (u : Int)) (g : Int) (g : Int)
  go_wp2_with fail
  go_ret
  exact ⟨rfl, hB5.alloc hs5 _⟩
set_option maxHeartbeats 2000000 in
set_option maxRecDepth 100000 in
theorem lends_walk (a0 a1 : Int) (w : World) : Calls Try.prog 6 #[.int .i64 a0, .int .i64 a1] w fun v w' => v = .returned (.bool true) ∧ Below w.heap.size w w' := by
  obtain ⟨u, hu, hMu⟩ := mask_nat a0 32767 (by decide)
  have hMu' : bits .and .i64 a0 32767 = (u : Int) := hMu
  clear hMu
  obtain ⟨o, ho, hMo⟩ := mask_nat a1 32767 (by decide)
  have hMo' : bits .and .i64 a1 32767 = (o : Int) := hMo
  clear hMo
  have H1 := Lib.hid (of_ok (u := 1 + (u : Int)) (g := 9) (by omega))
  have H2 := Lib.hid (exec_set (r := 1 + (u : Int)) (e := 1 + (u : Int)) (s := 1 + (u : Int)) (g := 9) (x := 9) (m := 2505) (o := 1 + (o : Int)) (right_mk (by omega)) (by kernel_rfl))
  have H3 := Lib.hid (suid_real (r := 1 + (u : Int)) (e := 1 + (o : Int)) (s := 1 + (o : Int)) (g := 9) (x := 9) (right_mk (by omega)) (by omega))
  have H4 := Lib.hid (suid_saved (r := 1 + (u : Int)) (e := 1 + (u : Int)) (s := 1 + (o : Int)) (g := 9) (x := 9) (right_mk (by omega)) (by omega))
  have H5 := Lib.hid (exec_plain (r := 1 + (u : Int)) (e := 1 + (u : Int)) (s := 1 + (o : Int)) (g := 9) (x := 9) (m := 457) (o := 1 + (o : Int)) (right_mk (by omega)) (by kernel_rfl))
  go_enter Try.func6, Try.ntmps6
  go_wp2_with fail
  refine (shown_any _).mono ?_
  rintro e w1 ⟨rfl, hb1⟩
  have hB1 := hb1
  have hs1 := hb1.size
  go_wp2_with fail
  refine (of_at _ _ _ _ _ _ _ _ H1.out _).mono ?_
  rintro e w2 ⟨rfl, hb2⟩
  obtain ⟨hB2, hs2, hz2⟩ := next0 hB1 hs1 hb2
  clear hb2
  go_wp2_with fail
  refine (exec_at _ _ _ _ _ _ _ _ _ _ _ _ _ H2.out _).mono ?_
  rintro e w3 ⟨rfl, hb3⟩
  obtain ⟨hB3, hs3, hz3⟩ := next hB2 hs2 hb3
  have Kc3 := (CAt.new w2 (1 + (u : Int)) (1 + (u : Int)) (1 + (u : Int)) (9) (9)).below hb3 (by simp)
  obtain ⟨cc0, cc1, cc2, cc3, cc4⟩ := Kc3.cells
  obtain ⟨cf0, cf1, cf2, cf3, cf4⟩ := Kc3.frozens
  have ltc3 := Kc3.lt
  replace Kc3 := Lib.hid Kc3
  clear hb3
  go_wp2_with fail
  refine (suid_at _ _ _ _ _ _ _ _ _ _ _ _ H3.out _).mono ?_
  rintro e w4 ⟨rfl, hb4⟩
  obtain ⟨hB4, hs4, hz4⟩ := next hB3 hs3 hb4
  have Kc4 := (Kc3.out.alloc _).below hb4 (by have := Kc3.out.lt; simp; omega)
  have Kd4 := (CAt.new w3 (1 + (u : Int)) (1 + (o : Int)) (1 + (o : Int)) (9) (9)).below hb4 (by simp)
  clear cc0 cc1 cc2 cc3 cc4 cf0 cf1 cf2 cf3 cf4
  obtain ⟨cc0, cc1, cc2, cc3, cc4⟩ := Kc4.cells
  obtain ⟨cf0, cf1, cf2, cf3, cf4⟩ := Kc4.frozens
  have ltc4 := Kc4.lt
  replace Kc4 := Lib.hid Kc4
  obtain ⟨dc0, dc1, dc2, dc3, dc4⟩ := Kd4.cells
  obtain ⟨df0, df1, df2, df3, df4⟩ := Kd4.frozens
  have ltd4 := Kd4.lt
  replace Kd4 := Lib.hid Kd4
  clear hb4
  go_wp2_with fail
  refine (suid_at _ _ _ _ _ _ _ _ _ _ _ _ H4.out _).mono ?_
  rintro e w5 ⟨rfl, hb5⟩
  obtain ⟨hB5, hs5, hz5⟩ := next hB4 hs4 hb5
  have Kc5 := (Kc4.out.alloc _).below hb5 (by have := Kc4.out.lt; simp; omega)
  have Kd5 := (Kd4.out.alloc _).below hb5 (by have := Kd4.out.lt; simp; omega)
  have Ka5 := (CAt.new w4 (1 + (u : Int)) (1 + (u : Int)) (1 + (o : Int)) (9) (9)).below hb5 (by simp)
  clear cc0 cc1 cc2 cc3 cc4 cf0 cf1 cf2 cf3 cf4
  obtain ⟨cc0, cc1, cc2, cc3, cc4⟩ := Kc5.cells
  obtain ⟨cf0, cf1, cf2, cf3, cf4⟩ := Kc5.frozens
  have ltc5 := Kc5.lt
  replace Kc5 := Lib.hid Kc5
  clear dc0 dc1 dc2 dc3 dc4 df0 df1 df2 df3 df4
  obtain ⟨dc0, dc1, dc2, dc3, dc4⟩ := Kd5.cells
  obtain ⟨df0, df1, df2, df3, df4⟩ := Kd5.frozens
  have ltd5 := Kd5.lt
  replace Kd5 := Lib.hid Kd5
  obtain ⟨ac0, ac1, ac2, ac3, ac4⟩ := Ka5.cells
  obtain ⟨af0, af1, af2, af3, af4⟩ := Ka5.frozens
  have lta5 := Ka5.lt
  replace Ka5 := Lib.hid Ka5
  clear hb5
  go_wp2_with fail
  refine (exec_at _ _ _ _ _ _ _ _ _ _ _ _ _ H5.out _).mono ?_
  rintro e w6 ⟨rfl, hb6⟩
  obtain ⟨hB6, hs6, hz6⟩ := next hB5 hs5 hb6
  have Kc6 := (Kc5.out.alloc _).below hb6 (by have := Kc5.out.lt; simp; omega)
  have Kd6 := (Kd5.out.alloc _).below hb6 (by have := Kd5.out.lt; simp; omega)
  have Ka6 := (Ka5.out.alloc _).below hb6 (by have := Ka5.out.lt; simp; omega)
  have Kb6 := (CAt.new w5 (1 + (u : Int)) (1 + (o : Int)) (1 + (o : Int)) (9) (9)).below hb6 (by simp)
  clear cc0 cc1 cc2 cc3 cc4 cf0 cf1 cf2 cf3 cf4
  obtain ⟨cc0, cc1, cc2, cc3, cc4⟩ := Kc6.cells
  obtain ⟨cf0, cf1, cf2, cf3, cf4⟩ := Kc6.frozens
  have ltc6 := Kc6.lt
  replace Kc6 := Lib.hid Kc6
  clear dc0 dc1 dc2 dc3 dc4 df0 df1 df2 df3 df4
  obtain ⟨dc0, dc1, dc2, dc3, dc4⟩ := Kd6.cells
  obtain ⟨df0, df1, df2, df3, df4⟩ := Kd6.frozens
  have ltd6 := Kd6.lt
  replace Kd6 := Lib.hid Kd6
  clear ac0 ac1 ac2 ac3 ac4 af0 af1 af2 af3 af4
  obtain ⟨ac0, ac1, ac2, ac3, ac4⟩ := Ka6.cells
  obtain ⟨af0, af1, af2, af3, af4⟩ := Ka6.frozens
  have lta6 := Ka6.lt
  replace Ka6 := Lib.hid Ka6
  obtain ⟨bc0, bc1, bc2, bc3, bc4⟩ := Kb6.cells
  obtain ⟨bf0, bf1, bf2, bf3, bf4⟩ := Kb6.frozens
  have ltb6 := Kb6.lt
  replace Kb6 := Lib.hid Kb6
  clear hb6
  have q1 := eq_at (1 + (u : Int)) (1 + (o : Int)) (1 + (o : Int)) 9 9 (1 + (u : Int)) (1 + (o : Int)) (1 + (o : Int)) 9 9 true (eqC_refl _)
  have q2 := fun op a b => guard_at op a b (1 + (u : Int)) (1 + (o : Int)) (1 + (o : Int)) 9 9 (1 + (u : Int)) (1 + (o : Int)) (1 + (o : Int)) 9 9
  go_wp2_with fail
  go_ret
  exact ⟨rfl, hB6.alloc hs6 _⟩
set_option maxHeartbeats 2000000 in
theorem groups_walk (a0 a1 a2 a3 : Int) (w : World) : Calls Try.prog 7 #[.int .i64 a0, .int .i64 a1, .int .i64 a2, .int .i64 a3] w fun v w' => v = .returned (.bool true) ∧ Below w.heap.size w w' := by
  obtain ⟨u, hu, hMu⟩ := mask_nat a0 32767 (by decide)
  have hMu' : bits .and .i64 a0 32767 = (u : Int) := hMu
  clear hMu
  obtain ⟨g, hg, hMg⟩ := mask_nat a1 32767 (by decide)
  have hMg' : bits .and .i64 a1 32767 = (g : Int) := hMg
  clear hMg
  obtain ⟨x, hx, hMx⟩ := mask_nat a2 32767 (by decide)
  have hMx' : bits .and .i64 a2 32767 = (x : Int) := hMx
  clear hMx
  obtain ⟨t, ht, hMt⟩ := mask_nat a3 32767 (by decide)
  have hMt' : bits .and .i64 a3 32767 = (t : Int) := hMt
  clear hMt
  have H1 := Lib.hid (sgid_same (r := 1 + (u : Int)) (e := 1 + (u : Int)) (s := 1 + (u : Int)) (g := (g : Int)) (x := (x : Int)) (right_mk (by omega)) (by omega))
  by_cases htg : t = g
  · have H2 := Lib.hid (show sgidP ⟨1 + (u : Int), 1 + (u : Int), 1 + (u : Int), (g : Int), (x : Int)⟩ (t : Int) = (⟨1 + (u : Int), 1 + (u : Int), 1 + (u : Int), (g : Int), (g : Int)⟩, 0) by rw [htg]; exact H1.out)
    have q : (((t : Int) == (g : Int)) : Bool) = true := by rw [htg]; simp
    clear htg
    go_enter Try.func7, Try.ntmps7
    go_wp2_with fail
    refine (shown_any _).mono ?_
    rintro e w1 ⟨rfl, hb1⟩
    have hB1 := hb1
    have hs1 := hb1.size
    go_wp2_with fail
    refine (sgid_at _ _ _ _ _ _ _ _ _ _ _ _ H1.out _).mono ?_
    rintro e w2 ⟨rfl, hb2⟩
    obtain ⟨hB2, hs2, hz2⟩ := next hB1 hs1 hb2
    have Kc2 := (CAt.new w1 (1 + (u : Int)) (1 + (u : Int)) (1 + (u : Int)) ((g : Int)) ((x : Int))).below hb2 (by simp)
    obtain ⟨cc0, cc1, cc2, cc3, cc4⟩ := Kc2.cells
    obtain ⟨cf0, cf1, cf2, cf3, cf4⟩ := Kc2.frozens
    have ltc2 := Kc2.lt
    replace Kc2 := Lib.hid Kc2
    clear hb2
    go_wp2_with fail
    refine (sgid_at _ _ _ _ _ _ _ _ _ _ _ _ H2.out _).mono ?_
    rintro e w3 ⟨rfl, hb3⟩
    obtain ⟨hB3, hs3, hz3⟩ := next hB2 hs2 hb3
    have Kc3 := (Kc2.out.alloc _).below hb3 (by have := Kc2.out.lt; simp; omega)
    have Kd3 := (CAt.new w2 (1 + (u : Int)) (1 + (u : Int)) (1 + (u : Int)) ((g : Int)) ((g : Int))).below hb3 (by simp)
    clear cc0 cc1 cc2 cc3 cc4 cf0 cf1 cf2 cf3 cf4
    obtain ⟨cc0, cc1, cc2, cc3, cc4⟩ := Kc3.cells
    obtain ⟨cf0, cf1, cf2, cf3, cf4⟩ := Kc3.frozens
    have ltc3 := Kc3.lt
    replace Kc3 := Lib.hid Kc3
    obtain ⟨dc0, dc1, dc2, dc3, dc4⟩ := Kd3.cells
    obtain ⟨df0, df1, df2, df3, df4⟩ := Kd3.frozens
    have ltd3 := Kd3.lt
    replace Kd3 := Lib.hid Kd3
    clear hb3
    go_wp2_with fail
    go_ret
    exact ⟨rfl, hB3.alloc hs3 _⟩
  · have H2 := Lib.hid (sgid_not (r := 1 + (u : Int)) (e := 1 + (u : Int)) (s := 1 + (u : Int)) (g := (g : Int)) (x := (x : Int)) (n := (t : Int)) (right_mk (by omega)) (by omega) (by omega))
    have q : (((t : Int) == (g : Int)) : Bool) = false := by simp; omega
    go_enter Try.func7, Try.ntmps7
    go_wp2_with fail
    refine (shown_any _).mono ?_
    rintro e w1 ⟨rfl, hb1⟩
    have hB1 := hb1
    have hs1 := hb1.size
    go_wp2_with fail
    refine (sgid_at _ _ _ _ _ _ _ _ _ _ _ _ H1.out _).mono ?_
    rintro e w2 ⟨rfl, hb2⟩
    obtain ⟨hB2, hs2, hz2⟩ := next hB1 hs1 hb2
    have Kc2 := (CAt.new w1 (1 + (u : Int)) (1 + (u : Int)) (1 + (u : Int)) ((g : Int)) ((x : Int))).below hb2 (by simp)
    obtain ⟨cc0, cc1, cc2, cc3, cc4⟩ := Kc2.cells
    obtain ⟨cf0, cf1, cf2, cf3, cf4⟩ := Kc2.frozens
    have ltc2 := Kc2.lt
    replace Kc2 := Lib.hid Kc2
    clear hb2
    go_wp2_with fail
    refine (sgid_at _ _ _ _ _ _ _ _ _ _ _ _ H2.out _).mono ?_
    rintro e w3 ⟨rfl, hb3⟩
    obtain ⟨hB3, hs3, hz3⟩ := next hB2 hs2 hb3
    have Kc3 := (Kc2.out.alloc _).below hb3 (by have := Kc2.out.lt; simp; omega)
    have Kd3 := (CAt.new w2 (1 + (u : Int)) (1 + (u : Int)) (1 + (u : Int)) ((g : Int)) ((g : Int))).below hb3 (by simp)
    clear cc0 cc1 cc2 cc3 cc4 cf0 cf1 cf2 cf3 cf4
    obtain ⟨cc0, cc1, cc2, cc3, cc4⟩ := Kc3.cells
    obtain ⟨cf0, cf1, cf2, cf3, cf4⟩ := Kc3.frozens
    have ltc3 := Kc3.lt
    replace Kc3 := Lib.hid Kc3
    obtain ⟨dc0, dc1, dc2, dc3, dc4⟩ := Kd3.cells
    obtain ⟨df0, df1, df2, df3, df4⟩ := Kd3.frozens
    have ltd3 := Kd3.lt
    replace Kd3 := Lib.hid Kd3
    clear hb3
    go_wp2_with fail
    go_ret
    exact ⟨rfl, hB3.alloc hs3 _⟩
theorem of_bad {u g : Int} (h : ¬ (0 ≤ u ∧ u ≤ 65535) ∨ ¬ (0 ≤ g ∧ g ≤ 65535)) : ofP u g = (⟨0, 0, 0, 0, 0⟩, 1) := by
  unfold ofP
  rw [if_neg (by simp only [idsB, Bool.and_eq_true, id_iff]; rintro ⟨h1, h2, _⟩; rcases h with h | h <;> contradiction)]; rfl
theorem right_bad {r e s g x n : Int} (h : n < 0 ∨ 65535 < n) : rightB ⟨r, e, s, g, x⟩ n = false := by
  cases hb : rightB ⟨r, e, s, g, x⟩ n
  · rfl
  · have := ((right_iff _ _).1 hb).2.2.2.2.2; omega
set_option maxHeartbeats 4000000 in
set_option maxRecDepth 100000 in
theorem bounds_walk (n : Int) (w : World) : Calls Try.prog 8 #[.int .i64 n] w fun v w' => v = .returned (.bool true) ∧ Below w.heap.size w w' := by
  have H1 := Lib.hid (of_ok (u := 0) (g := 0) (by omega))
  by_cases h0 : n < 0
  · have H2 := Lib.hid (of_bad (u := n) (g := 5) (by omega))
    have H3 := Lib.hid (of_bad (u := 5) (g := n) (by omega))
    have H4 := Lib.hid (suid_bad (r := 0) (e := 0) (s := 0) (g := 0) (x := 0) (u := n) (right_bad (by omega)))
    have H5 := Lib.hid (sgid_bad (r := 0) (e := 0) (s := 0) (g := 0) (x := 0) (u := n) (right_bad (by omega)))
    have H6 := Lib.hid (exec_bad (r := 0) (e := 0) (s := 0) (g := 0) (x := 0) (m := 2541) (o := n) (right_bad (by omega)))
    go_enter Try.func8, Try.ntmps8
    go_wp2_with fail
    refine (shown_any _).mono ?_
    rintro e w1 ⟨rfl, hb1⟩
    have hB1 := hb1
    have hs1 := hb1.size
    go_wp2_with fail
    refine (of_at _ _ _ _ _ _ _ _ H1.out _).mono ?_
    rintro e w2 ⟨rfl, hb2⟩
    obtain ⟨hB2, hs2, hz2⟩ := next0 hB1 hs1 hb2
    clear hb2
    go_wp2_with fail
    refine (of_at _ _ _ _ _ _ _ _ H2.out _).mono ?_
    rintro e w3 ⟨rfl, hb3⟩
    obtain ⟨hB3, hs3, hz3⟩ := next hB2 hs2 hb3
    have Kc3 := (CAt.new w2 (0) (0) (0) (0) (0)).below hb3 (by simp)
    obtain ⟨cc0, cc1, cc2, cc3, cc4⟩ := Kc3.cells
    obtain ⟨cf0, cf1, cf2, cf3, cf4⟩ := Kc3.frozens
    have ltc3 := Kc3.lt
    replace Kc3 := Lib.hid Kc3
    clear hb3
    go_wp2_with fail
    refine (of_at _ _ _ _ _ _ _ _ H3.out _).mono ?_
    rintro e w4 ⟨rfl, hb4⟩
    obtain ⟨hB4, hs4, hz4⟩ := next hB3 hs3 hb4
    have Kc4 := (Kc3.out.alloc _).below hb4 (by have := Kc3.out.lt; simp; omega)
    have Kp4 := (CAt.new w3 (0) (0) (0) (0) (0)).below hb4 (by simp)
    clear cc0 cc1 cc2 cc3 cc4 cf0 cf1 cf2 cf3 cf4
    obtain ⟨cc0, cc1, cc2, cc3, cc4⟩ := Kc4.cells
    obtain ⟨cf0, cf1, cf2, cf3, cf4⟩ := Kc4.frozens
    have ltc4 := Kc4.lt
    replace Kc4 := Lib.hid Kc4
    obtain ⟨pc0, pc1, pc2, pc3, pc4⟩ := Kp4.cells
    obtain ⟨pf0, pf1, pf2, pf3, pf4⟩ := Kp4.frozens
    have ltp4 := Kp4.lt
    replace Kp4 := Lib.hid Kp4
    clear hb4
    go_wp2_with fail
    refine (suid_at _ _ _ _ _ _ _ _ _ _ _ _ H4.out _).mono ?_
    rintro e w5 ⟨rfl, hb5⟩
    obtain ⟨hB5, hs5, hz5⟩ := next hB4 hs4 hb5
    have Kc5 := (Kc4.out.alloc _).below hb5 (by have := Kc4.out.lt; simp; omega)
    have Kp5 := (Kp4.out.alloc _).below hb5 (by have := Kp4.out.lt; simp; omega)
    have Kq5 := (CAt.new w4 (0) (0) (0) (0) (0)).below hb5 (by simp)
    clear cc0 cc1 cc2 cc3 cc4 cf0 cf1 cf2 cf3 cf4
    obtain ⟨cc0, cc1, cc2, cc3, cc4⟩ := Kc5.cells
    obtain ⟨cf0, cf1, cf2, cf3, cf4⟩ := Kc5.frozens
    have ltc5 := Kc5.lt
    replace Kc5 := Lib.hid Kc5
    clear pc0 pc1 pc2 pc3 pc4 pf0 pf1 pf2 pf3 pf4
    obtain ⟨pc0, pc1, pc2, pc3, pc4⟩ := Kp5.cells
    obtain ⟨pf0, pf1, pf2, pf3, pf4⟩ := Kp5.frozens
    have ltp5 := Kp5.lt
    replace Kp5 := Lib.hid Kp5
    obtain ⟨qc0, qc1, qc2, qc3, qc4⟩ := Kq5.cells
    obtain ⟨qf0, qf1, qf2, qf3, qf4⟩ := Kq5.frozens
    have ltq5 := Kq5.lt
    replace Kq5 := Lib.hid Kq5
    clear hb5
    go_wp2_with fail
    refine (sgid_at _ _ _ _ _ _ _ _ _ _ _ _ H5.out _).mono ?_
    rintro e w6 ⟨rfl, hb6⟩
    obtain ⟨hB6, hs6, hz6⟩ := next hB5 hs5 hb6
    have Kc6 := (Kc5.out.alloc _).below hb6 (by have := Kc5.out.lt; simp; omega)
    have Kp6 := (Kp5.out.alloc _).below hb6 (by have := Kp5.out.lt; simp; omega)
    have Kq6 := (Kq5.out.alloc _).below hb6 (by have := Kq5.out.lt; simp; omega)
    have Ks6 := (CAt.new w5 (0) (0) (0) (0) (0)).below hb6 (by simp)
    clear cc0 cc1 cc2 cc3 cc4 cf0 cf1 cf2 cf3 cf4
    obtain ⟨cc0, cc1, cc2, cc3, cc4⟩ := Kc6.cells
    obtain ⟨cf0, cf1, cf2, cf3, cf4⟩ := Kc6.frozens
    have ltc6 := Kc6.lt
    replace Kc6 := Lib.hid Kc6
    clear pc0 pc1 pc2 pc3 pc4 pf0 pf1 pf2 pf3 pf4
    obtain ⟨pc0, pc1, pc2, pc3, pc4⟩ := Kp6.cells
    obtain ⟨pf0, pf1, pf2, pf3, pf4⟩ := Kp6.frozens
    have ltp6 := Kp6.lt
    replace Kp6 := Lib.hid Kp6
    clear qc0 qc1 qc2 qc3 qc4 qf0 qf1 qf2 qf3 qf4
    obtain ⟨qc0, qc1, qc2, qc3, qc4⟩ := Kq6.cells
    obtain ⟨qf0, qf1, qf2, qf3, qf4⟩ := Kq6.frozens
    have ltq6 := Kq6.lt
    replace Kq6 := Lib.hid Kq6
    obtain ⟨sc0, sc1, sc2, sc3, sc4⟩ := Ks6.cells
    obtain ⟨sf0, sf1, sf2, sf3, sf4⟩ := Ks6.frozens
    have lts6 := Ks6.lt
    replace Ks6 := Lib.hid Ks6
    clear hb6
    go_wp2_with fail
    refine (exec_at _ _ _ _ _ _ _ _ _ _ _ _ _ H6.out _).mono ?_
    rintro e w7 ⟨rfl, hb7⟩
    obtain ⟨hB7, hs7, hz7⟩ := next hB6 hs6 hb7
    have Kc7 := (Kc6.out.alloc _).below hb7 (by have := Kc6.out.lt; simp; omega)
    have Kp7 := (Kp6.out.alloc _).below hb7 (by have := Kp6.out.lt; simp; omega)
    have Kq7 := (Kq6.out.alloc _).below hb7 (by have := Kq6.out.lt; simp; omega)
    have Ks7 := (Ks6.out.alloc _).below hb7 (by have := Ks6.out.lt; simp; omega)
    have Kt7 := (CAt.new w6 (0) (0) (0) (0) (0)).below hb7 (by simp)
    clear cc0 cc1 cc2 cc3 cc4 cf0 cf1 cf2 cf3 cf4
    obtain ⟨cc0, cc1, cc2, cc3, cc4⟩ := Kc7.cells
    obtain ⟨cf0, cf1, cf2, cf3, cf4⟩ := Kc7.frozens
    have ltc7 := Kc7.lt
    replace Kc7 := Lib.hid Kc7
    clear pc0 pc1 pc2 pc3 pc4 pf0 pf1 pf2 pf3 pf4
    obtain ⟨pc0, pc1, pc2, pc3, pc4⟩ := Kp7.cells
    obtain ⟨pf0, pf1, pf2, pf3, pf4⟩ := Kp7.frozens
    have ltp7 := Kp7.lt
    replace Kp7 := Lib.hid Kp7
    clear qc0 qc1 qc2 qc3 qc4 qf0 qf1 qf2 qf3 qf4
    obtain ⟨qc0, qc1, qc2, qc3, qc4⟩ := Kq7.cells
    obtain ⟨qf0, qf1, qf2, qf3, qf4⟩ := Kq7.frozens
    have ltq7 := Kq7.lt
    replace Kq7 := Lib.hid Kq7
    clear sc0 sc1 sc2 sc3 sc4 sf0 sf1 sf2 sf3 sf4
    obtain ⟨sc0, sc1, sc2, sc3, sc4⟩ := Ks7.cells
    obtain ⟨sf0, sf1, sf2, sf3, sf4⟩ := Ks7.frozens
    have lts7 := Ks7.lt
    replace Ks7 := Lib.hid Ks7
    obtain ⟨tc0, tc1, tc2, tc3, tc4⟩ := Kt7.cells
    obtain ⟨tf0, tf1, tf2, tf3, tf4⟩ := Kt7.frozens
    have ltt7 := Kt7.lt
    replace Kt7 := Lib.hid Kt7
    clear hb7
    go_wp2_with fail
    go_ret
    exact ⟨rfl, hB7.alloc hs7 _⟩
  by_cases h1 : 65535 < n
  · have H2 := Lib.hid (of_bad (u := n) (g := 5) (by omega))
    have H3 := Lib.hid (of_bad (u := 5) (g := n) (by omega))
    have H4 := Lib.hid (suid_bad (r := 0) (e := 0) (s := 0) (g := 0) (x := 0) (u := n) (right_bad (by omega)))
    have H5 := Lib.hid (sgid_bad (r := 0) (e := 0) (s := 0) (g := 0) (x := 0) (u := n) (right_bad (by omega)))
    have H6 := Lib.hid (exec_bad (r := 0) (e := 0) (s := 0) (g := 0) (x := 0) (m := 2541) (o := n) (right_bad (by omega)))
    go_enter Try.func8, Try.ntmps8
    go_wp2_with fail
    refine (shown_any _).mono ?_
    rintro e w1 ⟨rfl, hb1⟩
    have hB1 := hb1
    have hs1 := hb1.size
    go_wp2_with fail
    refine (of_at _ _ _ _ _ _ _ _ H1.out _).mono ?_
    rintro e w2 ⟨rfl, hb2⟩
    obtain ⟨hB2, hs2, hz2⟩ := next0 hB1 hs1 hb2
    clear hb2
    go_wp2_with fail
    refine (of_at _ _ _ _ _ _ _ _ H2.out _).mono ?_
    rintro e w3 ⟨rfl, hb3⟩
    obtain ⟨hB3, hs3, hz3⟩ := next hB2 hs2 hb3
    have Kc3 := (CAt.new w2 (0) (0) (0) (0) (0)).below hb3 (by simp)
    obtain ⟨cc0, cc1, cc2, cc3, cc4⟩ := Kc3.cells
    obtain ⟨cf0, cf1, cf2, cf3, cf4⟩ := Kc3.frozens
    have ltc3 := Kc3.lt
    replace Kc3 := Lib.hid Kc3
    clear hb3
    go_wp2_with fail
    refine (of_at _ _ _ _ _ _ _ _ H3.out _).mono ?_
    rintro e w4 ⟨rfl, hb4⟩
    obtain ⟨hB4, hs4, hz4⟩ := next hB3 hs3 hb4
    have Kc4 := (Kc3.out.alloc _).below hb4 (by have := Kc3.out.lt; simp; omega)
    have Kp4 := (CAt.new w3 (0) (0) (0) (0) (0)).below hb4 (by simp)
    clear cc0 cc1 cc2 cc3 cc4 cf0 cf1 cf2 cf3 cf4
    obtain ⟨cc0, cc1, cc2, cc3, cc4⟩ := Kc4.cells
    obtain ⟨cf0, cf1, cf2, cf3, cf4⟩ := Kc4.frozens
    have ltc4 := Kc4.lt
    replace Kc4 := Lib.hid Kc4
    obtain ⟨pc0, pc1, pc2, pc3, pc4⟩ := Kp4.cells
    obtain ⟨pf0, pf1, pf2, pf3, pf4⟩ := Kp4.frozens
    have ltp4 := Kp4.lt
    replace Kp4 := Lib.hid Kp4
    clear hb4
    go_wp2_with fail
    refine (suid_at _ _ _ _ _ _ _ _ _ _ _ _ H4.out _).mono ?_
    rintro e w5 ⟨rfl, hb5⟩
    obtain ⟨hB5, hs5, hz5⟩ := next hB4 hs4 hb5
    have Kc5 := (Kc4.out.alloc _).below hb5 (by have := Kc4.out.lt; simp; omega)
    have Kp5 := (Kp4.out.alloc _).below hb5 (by have := Kp4.out.lt; simp; omega)
    have Kq5 := (CAt.new w4 (0) (0) (0) (0) (0)).below hb5 (by simp)
    clear cc0 cc1 cc2 cc3 cc4 cf0 cf1 cf2 cf3 cf4
    obtain ⟨cc0, cc1, cc2, cc3, cc4⟩ := Kc5.cells
    obtain ⟨cf0, cf1, cf2, cf3, cf4⟩ := Kc5.frozens
    have ltc5 := Kc5.lt
    replace Kc5 := Lib.hid Kc5
    clear pc0 pc1 pc2 pc3 pc4 pf0 pf1 pf2 pf3 pf4
    obtain ⟨pc0, pc1, pc2, pc3, pc4⟩ := Kp5.cells
    obtain ⟨pf0, pf1, pf2, pf3, pf4⟩ := Kp5.frozens
    have ltp5 := Kp5.lt
    replace Kp5 := Lib.hid Kp5
    obtain ⟨qc0, qc1, qc2, qc3, qc4⟩ := Kq5.cells
    obtain ⟨qf0, qf1, qf2, qf3, qf4⟩ := Kq5.frozens
    have ltq5 := Kq5.lt
    replace Kq5 := Lib.hid Kq5
    clear hb5
    go_wp2_with fail
    refine (sgid_at _ _ _ _ _ _ _ _ _ _ _ _ H5.out _).mono ?_
    rintro e w6 ⟨rfl, hb6⟩
    obtain ⟨hB6, hs6, hz6⟩ := next hB5 hs5 hb6
    have Kc6 := (Kc5.out.alloc _).below hb6 (by have := Kc5.out.lt; simp; omega)
    have Kp6 := (Kp5.out.alloc _).below hb6 (by have := Kp5.out.lt; simp; omega)
    have Kq6 := (Kq5.out.alloc _).below hb6 (by have := Kq5.out.lt; simp; omega)
    have Ks6 := (CAt.new w5 (0) (0) (0) (0) (0)).below hb6 (by simp)
    clear cc0 cc1 cc2 cc3 cc4 cf0 cf1 cf2 cf3 cf4
    obtain ⟨cc0, cc1, cc2, cc3, cc4⟩ := Kc6.cells
    obtain ⟨cf0, cf1, cf2, cf3, cf4⟩ := Kc6.frozens
    have ltc6 := Kc6.lt
    replace Kc6 := Lib.hid Kc6
    clear pc0 pc1 pc2 pc3 pc4 pf0 pf1 pf2 pf3 pf4
    obtain ⟨pc0, pc1, pc2, pc3, pc4⟩ := Kp6.cells
    obtain ⟨pf0, pf1, pf2, pf3, pf4⟩ := Kp6.frozens
    have ltp6 := Kp6.lt
    replace Kp6 := Lib.hid Kp6
    clear qc0 qc1 qc2 qc3 qc4 qf0 qf1 qf2 qf3 qf4
    obtain ⟨qc0, qc1, qc2, qc3, qc4⟩ := Kq6.cells
    obtain ⟨qf0, qf1, qf2, qf3, qf4⟩ := Kq6.frozens
    have ltq6 := Kq6.lt
    replace Kq6 := Lib.hid Kq6
    obtain ⟨sc0, sc1, sc2, sc3, sc4⟩ := Ks6.cells
    obtain ⟨sf0, sf1, sf2, sf3, sf4⟩ := Ks6.frozens
    have lts6 := Ks6.lt
    replace Ks6 := Lib.hid Ks6
    clear hb6
    go_wp2_with fail
    refine (exec_at _ _ _ _ _ _ _ _ _ _ _ _ _ H6.out _).mono ?_
    rintro e w7 ⟨rfl, hb7⟩
    obtain ⟨hB7, hs7, hz7⟩ := next hB6 hs6 hb7
    have Kc7 := (Kc6.out.alloc _).below hb7 (by have := Kc6.out.lt; simp; omega)
    have Kp7 := (Kp6.out.alloc _).below hb7 (by have := Kp6.out.lt; simp; omega)
    have Kq7 := (Kq6.out.alloc _).below hb7 (by have := Kq6.out.lt; simp; omega)
    have Ks7 := (Ks6.out.alloc _).below hb7 (by have := Ks6.out.lt; simp; omega)
    have Kt7 := (CAt.new w6 (0) (0) (0) (0) (0)).below hb7 (by simp)
    clear cc0 cc1 cc2 cc3 cc4 cf0 cf1 cf2 cf3 cf4
    obtain ⟨cc0, cc1, cc2, cc3, cc4⟩ := Kc7.cells
    obtain ⟨cf0, cf1, cf2, cf3, cf4⟩ := Kc7.frozens
    have ltc7 := Kc7.lt
    replace Kc7 := Lib.hid Kc7
    clear pc0 pc1 pc2 pc3 pc4 pf0 pf1 pf2 pf3 pf4
    obtain ⟨pc0, pc1, pc2, pc3, pc4⟩ := Kp7.cells
    obtain ⟨pf0, pf1, pf2, pf3, pf4⟩ := Kp7.frozens
    have ltp7 := Kp7.lt
    replace Kp7 := Lib.hid Kp7
    clear qc0 qc1 qc2 qc3 qc4 qf0 qf1 qf2 qf3 qf4
    obtain ⟨qc0, qc1, qc2, qc3, qc4⟩ := Kq7.cells
    obtain ⟨qf0, qf1, qf2, qf3, qf4⟩ := Kq7.frozens
    have ltq7 := Kq7.lt
    replace Kq7 := Lib.hid Kq7
    clear sc0 sc1 sc2 sc3 sc4 sf0 sf1 sf2 sf3 sf4
    obtain ⟨sc0, sc1, sc2, sc3, sc4⟩ := Ks7.cells
    obtain ⟨sf0, sf1, sf2, sf3, sf4⟩ := Ks7.frozens
    have lts7 := Ks7.lt
    replace Ks7 := Lib.hid Ks7
    obtain ⟨tc0, tc1, tc2, tc3, tc4⟩ := Kt7.cells
    obtain ⟨tf0, tf1, tf2, tf3, tf4⟩ := Kt7.frozens
    have ltt7 := Kt7.lt
    replace Kt7 := Lib.hid Kt7
    clear hb7
    go_wp2_with fail
    go_ret
    exact ⟨rfl, hB7.alloc hs7 _⟩
  · have h2 : 0 ≤ n := by omega
    have h3 : n ≤ 65535 := by omega
    clear h0 h1
    have H2 := Lib.hid (of_ok (u := n) (g := 5) (by omega))
    have H3 := Lib.hid (of_ok (u := 5) (g := n) (by omega))
    have H4 := Lib.hid (suid_root (r := 0) (s := 0) (g := 0) (x := 0) (u := n) (right_mk (by omega)))
    have H5 := Lib.hid (sgid_root (r := 0) (s := 0) (g := 0) (x := 0) (n := n) (right_mk (by omega)))
    have H6 := Lib.hid (exec_set (r := 0) (e := 0) (s := 0) (g := 0) (x := 0) (m := 2541) (o := n) (right_mk (by omega)) (by kernel_rfl))
    go_enter Try.func8, Try.ntmps8
    go_wp2_with fail
    refine (shown_any _).mono ?_
    rintro e w1 ⟨rfl, hb1⟩
    have hB1 := hb1
    have hs1 := hb1.size
    go_wp2_with fail
    refine (of_at _ _ _ _ _ _ _ _ H1.out _).mono ?_
    rintro e w2 ⟨rfl, hb2⟩
    obtain ⟨hB2, hs2, hz2⟩ := next0 hB1 hs1 hb2
    clear hb2
    go_wp2_with fail
    refine (of_at _ _ _ _ _ _ _ _ H2.out _).mono ?_
    rintro e w3 ⟨rfl, hb3⟩
    obtain ⟨hB3, hs3, hz3⟩ := next hB2 hs2 hb3
    have Kc3 := (CAt.new w2 (0) (0) (0) (0) (0)).below hb3 (by simp)
    obtain ⟨cc0, cc1, cc2, cc3, cc4⟩ := Kc3.cells
    obtain ⟨cf0, cf1, cf2, cf3, cf4⟩ := Kc3.frozens
    have ltc3 := Kc3.lt
    replace Kc3 := Lib.hid Kc3
    clear hb3
    go_wp2_with fail
    refine (of_at _ _ _ _ _ _ _ _ H3.out _).mono ?_
    rintro e w4 ⟨rfl, hb4⟩
    obtain ⟨hB4, hs4, hz4⟩ := next hB3 hs3 hb4
    have Kc4 := (Kc3.out.alloc _).below hb4 (by have := Kc3.out.lt; simp; omega)
    have Kp4 := (CAt.new w3 (n) (n) (n) (5) (5)).below hb4 (by simp)
    clear cc0 cc1 cc2 cc3 cc4 cf0 cf1 cf2 cf3 cf4
    obtain ⟨cc0, cc1, cc2, cc3, cc4⟩ := Kc4.cells
    obtain ⟨cf0, cf1, cf2, cf3, cf4⟩ := Kc4.frozens
    have ltc4 := Kc4.lt
    replace Kc4 := Lib.hid Kc4
    obtain ⟨pc0, pc1, pc2, pc3, pc4⟩ := Kp4.cells
    obtain ⟨pf0, pf1, pf2, pf3, pf4⟩ := Kp4.frozens
    have ltp4 := Kp4.lt
    replace Kp4 := Lib.hid Kp4
    clear hb4
    go_wp2_with fail
    refine (suid_at _ _ _ _ _ _ _ _ _ _ _ _ H4.out _).mono ?_
    rintro e w5 ⟨rfl, hb5⟩
    obtain ⟨hB5, hs5, hz5⟩ := next hB4 hs4 hb5
    have Kc5 := (Kc4.out.alloc _).below hb5 (by have := Kc4.out.lt; simp; omega)
    have Kp5 := (Kp4.out.alloc _).below hb5 (by have := Kp4.out.lt; simp; omega)
    have Kq5 := (CAt.new w4 (5) (5) (5) (n) (n)).below hb5 (by simp)
    clear cc0 cc1 cc2 cc3 cc4 cf0 cf1 cf2 cf3 cf4
    obtain ⟨cc0, cc1, cc2, cc3, cc4⟩ := Kc5.cells
    obtain ⟨cf0, cf1, cf2, cf3, cf4⟩ := Kc5.frozens
    have ltc5 := Kc5.lt
    replace Kc5 := Lib.hid Kc5
    clear pc0 pc1 pc2 pc3 pc4 pf0 pf1 pf2 pf3 pf4
    obtain ⟨pc0, pc1, pc2, pc3, pc4⟩ := Kp5.cells
    obtain ⟨pf0, pf1, pf2, pf3, pf4⟩ := Kp5.frozens
    have ltp5 := Kp5.lt
    replace Kp5 := Lib.hid Kp5
    obtain ⟨qc0, qc1, qc2, qc3, qc4⟩ := Kq5.cells
    obtain ⟨qf0, qf1, qf2, qf3, qf4⟩ := Kq5.frozens
    have ltq5 := Kq5.lt
    replace Kq5 := Lib.hid Kq5
    clear hb5
    go_wp2_with fail
    refine (sgid_at _ _ _ _ _ _ _ _ _ _ _ _ H5.out _).mono ?_
    rintro e w6 ⟨rfl, hb6⟩
    obtain ⟨hB6, hs6, hz6⟩ := next hB5 hs5 hb6
    have Kc6 := (Kc5.out.alloc _).below hb6 (by have := Kc5.out.lt; simp; omega)
    have Kp6 := (Kp5.out.alloc _).below hb6 (by have := Kp5.out.lt; simp; omega)
    have Kq6 := (Kq5.out.alloc _).below hb6 (by have := Kq5.out.lt; simp; omega)
    have Ks6 := (CAt.new w5 (n) (n) (n) (0) (0)).below hb6 (by simp)
    clear cc0 cc1 cc2 cc3 cc4 cf0 cf1 cf2 cf3 cf4
    obtain ⟨cc0, cc1, cc2, cc3, cc4⟩ := Kc6.cells
    obtain ⟨cf0, cf1, cf2, cf3, cf4⟩ := Kc6.frozens
    have ltc6 := Kc6.lt
    replace Kc6 := Lib.hid Kc6
    clear pc0 pc1 pc2 pc3 pc4 pf0 pf1 pf2 pf3 pf4
    obtain ⟨pc0, pc1, pc2, pc3, pc4⟩ := Kp6.cells
    obtain ⟨pf0, pf1, pf2, pf3, pf4⟩ := Kp6.frozens
    have ltp6 := Kp6.lt
    replace Kp6 := Lib.hid Kp6
    clear qc0 qc1 qc2 qc3 qc4 qf0 qf1 qf2 qf3 qf4
    obtain ⟨qc0, qc1, qc2, qc3, qc4⟩ := Kq6.cells
    obtain ⟨qf0, qf1, qf2, qf3, qf4⟩ := Kq6.frozens
    have ltq6 := Kq6.lt
    replace Kq6 := Lib.hid Kq6
    obtain ⟨sc0, sc1, sc2, sc3, sc4⟩ := Ks6.cells
    obtain ⟨sf0, sf1, sf2, sf3, sf4⟩ := Ks6.frozens
    have lts6 := Ks6.lt
    replace Ks6 := Lib.hid Ks6
    clear hb6
    go_wp2_with fail
    refine (exec_at _ _ _ _ _ _ _ _ _ _ _ _ _ H6.out _).mono ?_
    rintro e w7 ⟨rfl, hb7⟩
    obtain ⟨hB7, hs7, hz7⟩ := next hB6 hs6 hb7
    have Kc7 := (Kc6.out.alloc _).below hb7 (by have := Kc6.out.lt; simp; omega)
    have Kp7 := (Kp6.out.alloc _).below hb7 (by have := Kp6.out.lt; simp; omega)
    have Kq7 := (Kq6.out.alloc _).below hb7 (by have := Kq6.out.lt; simp; omega)
    have Ks7 := (Ks6.out.alloc _).below hb7 (by have := Ks6.out.lt; simp; omega)
    have Kt7 := (CAt.new w6 (0) (0) (0) (n) (n)).below hb7 (by simp)
    clear cc0 cc1 cc2 cc3 cc4 cf0 cf1 cf2 cf3 cf4
    obtain ⟨cc0, cc1, cc2, cc3, cc4⟩ := Kc7.cells
    obtain ⟨cf0, cf1, cf2, cf3, cf4⟩ := Kc7.frozens
    have ltc7 := Kc7.lt
    replace Kc7 := Lib.hid Kc7
    clear pc0 pc1 pc2 pc3 pc4 pf0 pf1 pf2 pf3 pf4
    obtain ⟨pc0, pc1, pc2, pc3, pc4⟩ := Kp7.cells
    obtain ⟨pf0, pf1, pf2, pf3, pf4⟩ := Kp7.frozens
    have ltp7 := Kp7.lt
    replace Kp7 := Lib.hid Kp7
    clear qc0 qc1 qc2 qc3 qc4 qf0 qf1 qf2 qf3 qf4
    obtain ⟨qc0, qc1, qc2, qc3, qc4⟩ := Kq7.cells
    obtain ⟨qf0, qf1, qf2, qf3, qf4⟩ := Kq7.frozens
    have ltq7 := Kq7.lt
    replace Kq7 := Lib.hid Kq7
    clear sc0 sc1 sc2 sc3 sc4 sf0 sf1 sf2 sf3 sf4
    obtain ⟨sc0, sc1, sc2, sc3, sc4⟩ := Ks7.cells
    obtain ⟨sf0, sf1, sf2, sf3, sf4⟩ := Ks7.frozens
    have lts7 := Ks7.lt
    replace Ks7 := Lib.hid Ks7
    obtain ⟨tc0, tc1, tc2, tc3, tc4⟩ := Kt7.cells
    obtain ⟨tf0, tf1, tf2, tf3, tf4⟩ := Kt7.frozens
    have ltt7 := Kt7.lt
    replace Kt7 := Lib.hid Kt7
    clear hb7
    go_wp2_with fail
    go_ret
    exact ⟨ret_bool (by simp; omega), hB7.alloc hs7 _⟩
end Go.Proofs.Ytgcnjnjdjldfoaa
