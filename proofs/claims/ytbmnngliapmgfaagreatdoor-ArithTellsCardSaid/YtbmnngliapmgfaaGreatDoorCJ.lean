/- The document's reader: Constant. -/
import Derived.Test.YtbmnngliapmgfaaGreatDoorAF
namespace Go.Proofs.YtbmnngliapmgfaaGreatDoor
open Go.RowKit
set_option linter.unusedVariables false
set_option linter.unusedSimpArgs false
/-- what a text is as a constant: the number, and whether it is one. -/
def conP (l : Bs) : Int × Bool := if l ≠ [] ∧ cstN l = l.length then (cstV l, true) else (0, false)
def rdL (b : Nat) (l : Bs) (v : Nat) : Int × Bool := if dlen b l = l.length then (wrap64 (dval b l v : Nat), true) else (0, false)
theorem rdL_nil (b v : Nat) : rdL b [] v = (wrap64 (v : Nat), true) := by unfold rdL; simp [dlen, dval]
theorem rdL_yes {b : Nat} {c : UInt8} {r : Bs} {v : Nat} (h : dg c < b) : rdL b (c :: r) v = rdL b r (v * b + dg c) := by
  unfold rdL
  rw [dlen, if_pos h, dval, if_pos h, List.length_cons]
  by_cases e : dlen b r = r.length
  · rw [if_pos (by omega), if_pos e]
  · rw [if_neg (by omega), if_neg e]
theorem rdL_no {b : Nat} {c : UInt8} {r : Bs} {v : Nat} (h : ¬ dg c < b) : rdL b (c :: r) v = (0, false) := by
  unfold rdL
  rw [dlen, if_neg h, List.length_cons, if_neg (by omega)]
theorem con_of {l : Bs} (h : l ≠ []) {b k : Nat} (hb : base l = (b, k)) (hk : k ≤ l.length) : conP l = rdL b (l.drop k) 0 := by
  unfold conP rdL cstN cstV
  rw [hb]
  dsimp only
  rw [List.length_drop]
  by_cases e : dlen b (l.drop k) = l.length - k
  · rw [if_pos ⟨h, by omega⟩, if_pos e]
  · rw [if_neg (fun h2 => by omega), if_neg e]
theorem dg_x : dg 120 = 16 ∧ dg 88 = 16 := by decide
theorem con_hex {x : UInt8} {r : Bs} (hx : x = 120 ∨ x = 88) : conP (48 :: x :: r) = if r = [] then (0, false) else rdL 16 r 0 := by
  have h8 : ∀ r : Bs, rdL 8 (48 :: x :: r) 0 = (0, false) := by
    intro r
    rw [rdL_yes (by decide), rdL_no (by rcases hx with rfl | rfl <;> decide)]
  cases r with
  | nil =>
    rw [if_pos rfl, con_of (by simp) (b := 8) (k := 0) (by rcases hx with rfl | rfl <;> rfl) (Nat.zero_le _), List.drop_zero]
    exact h8 []
  | cons d r =>
    rw [if_neg (by simp)]
    by_cases hd : dg d < 16
    · have hb : base (48 :: x :: d :: r) = (16, 2) := by
        unfold base
        rw [if_pos (by unfold hexB; rcases hx with rfl | rfl <;> simp [hd])]
      rw [con_of (by simp) hb (by simp)]; rfl
    · have hb : base (48 :: x :: d :: r) = (8, 0) := by
        unfold base
        rw [if_neg (by unfold hexB; rcases hx with rfl | rfl <;> simp [hd])]
        simp
      rw [con_of (by simp) hb (Nat.zero_le _), List.drop_zero, h8, rdL_no hd]
theorem con_oct {r : Bs} (h : ∀ x q, r = x :: q → ¬ (x = 120 ∨ x = 88)) : conP (48 :: r) = rdL 8 (48 :: r) 0 := by
  have hb : base (48 :: r) = (8, 0) := by
    unfold base
    rw [if_neg]
    · simp
    · unfold hexB
      match r, h with
      | [], _ => simp
      | [x], _ => simp
      | x :: d :: q, h =>
        have := h x _ rfl
        simp only [not_or] at this
        simp [this.1, this.2]
  rw [con_of (by simp) hb (Nat.zero_le _), List.drop_zero]
theorem con_dec {c : UInt8} {r : Bs} (h : ¬ c = 48) : conP (c :: r) = rdL 10 (c :: r) 0 := by
  have hb : base (c :: r) = (10, 0) := by
    unfold base
    rw [if_neg]
    · rw [if_neg (by simpa using h)]
    · unfold hexB
      match r with
      | [] => simp
      | [x] => simp
      | x :: d :: q => simp [h]
  rw [con_of (by simp) hb (Nat.zero_le _), List.drop_zero]
def conRel (s : ByteArray) (b : Nat) (V : Int) (B : Bool) (nv iv : Value) : Prop :=
  ∃ k n : Nat, iv = .int .i64 k ∧ nv = .int .u64 (IntKind.u64.wrap (n : Int)) ∧ k ≤ s.size ∧ rdL b (s.data.toList.drop k) n = (V, B)
set_option maxRecDepth 100000 in
set_option maxHeartbeats 8000000 in
theorem rConstant_any (s : ByteArray) (hs : s.size ≤ maxLen) (w : World) :
    Calls Tryz.prog 26 #[.string s] w fun e w' => e = .returned (.tuple #[.int .i64 (conP s.data.toList).1, .bool (conP s.data.toList).2]) ∧ w' = w := by
  unfold maxLen at hs
  obtain ⟨V, B, hVB⟩ : ∃ V B, conP s.data.toList = (V, B) := ⟨_, _, rfl⟩
  rw [hVB]
  by_cases h0 : 0 < s.size
  · obtain ⟨q, hq⟩ := head_byte h0
    by_cases e0 : s[0] = 48
    · have g0 : (((s[0].toNat : Int) == 48) : Bool) = true := u8_true s[0] 48 e0
      by_cases h1 : 1 < s.size
      · have hq2 : s.data.toList = (48 : UInt8) :: s[1] :: s.data.toList.drop 2 := by
          have h1' := at_byte (s := s) (k := 0) h0
          have h2' := at_byte (s := s) (k := 1) h1
          rw [List.drop_zero, Nat.zero_add, h2', e0] at h1'
          exact h1'
        by_cases hx : s[1] = 120 ∨ s[1] = 88
        · rw [hq2, con_hex hx] at hVB
          have hxs : (s[1] = 120) ∨ (¬ s[1] = 120 ∧ s[1] = 88) := by
            by_cases h : s[1] = 120
            · exact .inl h
            · exact .inr ⟨h, hx.resolve_left h⟩
          by_cases h2 : s.size = 2
          · rw [if_pos (List.drop_eq_nil_of_le (by rw [size_len]; omega))] at hVB
            injection hVB with hv1 hv2
            subst hv1 hv2
            clear hq hq2 hx e0
            rcases hxs with h | ⟨h, h'⟩
            · have g1 : (((s[1].toNat : Int) == 120) : Bool) = true := u8_true s[1] 120 h
              clear h
              go_enter Tryz.func26, Tryz.ntmps26
              go_wp2
              go_ret2
              exact ⟨rfl, rfl⟩
            · have g1 : (((s[1].toNat : Int) == 120) : Bool) = false := u8_false s[1] 120 h
              have g2 : (((s[1].toNat : Int) == 88) : Bool) = true := u8_true s[1] 88 h'
              clear h h'
              go_enter Tryz.func26, Tryz.ntmps26
              go_wp2
              go_ret2
              exact ⟨rfl, rfl⟩
          · rw [if_neg (fun h => by have := List.drop_eq_nil_iff.1 h; rw [size_len] at this; omega)] at hVB
            have HV := Lib.hid hVB
            clear hq hq2 hx e0 hVB
            rcases hxs with h | ⟨h, h'⟩
            · have g1 : (((s[1].toNat : Int) == 120) : Bool) = true := u8_true s[1] 120 h
              clear h
              go_enter Tryz.func26, Tryz.ntmps26
              go_wp2
              go_loop [6, 7, 8, 9] (fun nv iv _ _ => conRel s 16 V B nv iv) (fun _ iv _ _ => s.size - (intOf iv).toNat)
              case atStart => exact ⟨2, 0, rfl, by rfl, by omega, HV.out⟩
              case round =>
                obtain ⟨k, n, rfl, rfl, hk, hr⟩ := hrel
                have hwb := wrap_bounds (n : Int)
                by_cases hlt : k < s.size
                · rw [at_byte hlt] at hr
                  by_cases c1 : 48 ≤ s[k].toNat ∧ s[k].toNat ≤ 57
                  · have hdg : dg s[k] = s[k].toNat - 48 := by unfold dg; rw [if_pos (by unfold isDg; simp [c1])]
                    have he : ((dg s[k] : Nat) : Int) = (s[k].toNat : Int) - 48 := by rw [hdg]; omega
                    have i1 : (48 : Int) ≤ (s[k].toNat : Int) := by omega
                    have i2 : (s[k].toNat : Int) ≤ 57 := by omega
                    by_cases hd : dg s[k] < 16
                    · have hdi : (s[k].toNat : Int) - 48 < 16 := by omega
                      rw [rdL_yes hd] at hr
                      have R := Lib.hid (show conRel s 16 V B (.int .u64 (IntKind.u64.wrap (IntKind.u64.wrap (IntKind.u64.wrap (n : Int) * ((16 : Nat) : Int)) + ((s[k].toNat : Int) - 48)))) (.int .i64 ((k + 1 : Nat) : Int)) from ⟨k + 1, n * 16 + dg s[k], rfl, by rw [← he, wrap_step], hlt, hr⟩)
                      generalize IntKind.u64.wrap (n : Int) = x at *
                      clear hr hd he hdg
                      go_wp2
                      all_goals
                        go_round
                        case rel =>
                          have := R.out
                          first
                            | (simpa using this)
                            | (refine ⟨_, _, _, _, ?_, rfl, rfl, rfl, rfl⟩; simpa using this)
                        case measure => simp [intOf]; omega
                    · have hdi : ¬ (s[k].toNat : Int) - 48 < 16 := by omega
                      rw [rdL_no hd] at hr
                      injection hr with hr1 hr2
                      subst hr1 hr2
                      generalize IntKind.u64.wrap (n : Int) = x at *
                      clear hd he hdg
                      go_wp2
                      all_goals
                        go_ret2
                        exact ⟨rfl, rfl⟩
                  · have hnd : ¬ isDg s[k] = true := fun h => c1 (by unfold isDg at h; simpa using h)
                    by_cases c2 : 97 ≤ s[k].toNat ∧ s[k].toNat ≤ 102
                    · have hdg : dg s[k] = s[k].toNat - 87 := by unfold dg; rw [if_neg hnd, if_pos c2]
                      clear hnd
                      have he : ((dg s[k] : Nat) : Int) = (s[k].toNat : Int) - 97 + 10 := by rw [hdg]; omega
                      have i1 : (97 : Int) ≤ (s[k].toNat : Int) := by omega
                      have i2 : (s[k].toNat : Int) ≤ 102 := by omega
                      by_cases hd : dg s[k] < 16
                      · have hdi : (s[k].toNat : Int) - 97 + 10 < 16 := by omega
                        rw [rdL_yes hd] at hr
                        have R := Lib.hid (show conRel s 16 V B (.int .u64 (IntKind.u64.wrap (IntKind.u64.wrap (IntKind.u64.wrap (n : Int) * ((16 : Nat) : Int)) + ((s[k].toNat : Int) - 97 + 10)))) (.int .i64 ((k + 1 : Nat) : Int)) from ⟨k + 1, n * 16 + dg s[k], rfl, by rw [← he, wrap_step], hlt, hr⟩)
                        generalize IntKind.u64.wrap (n : Int) = x at *
                        clear hr hd he hdg
                        go_wp2
                        all_goals
                          go_round
                          case rel =>
                            have := R.out
                            first
                              | (simpa using this)
                              | (refine ⟨_, _, _, _, ?_, rfl, rfl, rfl, rfl⟩; simpa using this)
                          case measure => simp [intOf]; omega
                      · have hdi : ¬ (s[k].toNat : Int) - 97 + 10 < 16 := by omega
                        rw [rdL_no hd] at hr
                        injection hr with hr1 hr2
                        subst hr1 hr2
                        generalize IntKind.u64.wrap (n : Int) = x at *
                        clear hd he hdg
                        go_wp2
                        all_goals
                          go_ret2
                          exact ⟨rfl, rfl⟩
                    · by_cases c3 : 65 ≤ s[k].toNat ∧ s[k].toNat ≤ 70
                      · have hdg : dg s[k] = s[k].toNat - 55 := by unfold dg; rw [if_neg hnd, if_neg c2, if_pos c3]
                        clear hnd
                        have he : ((dg s[k] : Nat) : Int) = (s[k].toNat : Int) - 65 + 10 := by rw [hdg]; omega
                        have i1 : (65 : Int) ≤ (s[k].toNat : Int) := by omega
                        have i2 : (s[k].toNat : Int) ≤ 70 := by omega
                        by_cases hd : dg s[k] < 16
                        · have hdi : (s[k].toNat : Int) - 65 + 10 < 16 := by omega
                          rw [rdL_yes hd] at hr
                          have R := Lib.hid (show conRel s 16 V B (.int .u64 (IntKind.u64.wrap (IntKind.u64.wrap (IntKind.u64.wrap (n : Int) * ((16 : Nat) : Int)) + ((s[k].toNat : Int) - 65 + 10)))) (.int .i64 ((k + 1 : Nat) : Int)) from ⟨k + 1, n * 16 + dg s[k], rfl, by rw [← he, wrap_step], hlt, hr⟩)
                          generalize IntKind.u64.wrap (n : Int) = x at *
                          clear hr hd he hdg
                          go_wp2
                          all_goals
                            go_round
                            case rel =>
                              have := R.out
                              first
                                | (simpa using this)
                                | (refine ⟨_, _, _, _, ?_, rfl, rfl, rfl, rfl⟩; simpa using this)
                            case measure => simp [intOf]; omega
                        · have hdi : ¬ (s[k].toNat : Int) - 65 + 10 < 16 := by omega
                          rw [rdL_no hd] at hr
                          injection hr with hr1 hr2
                          subst hr1 hr2
                          generalize IntKind.u64.wrap (n : Int) = x at *
                          clear hd he hdg
                          go_wp2
                          all_goals
                            go_ret2
                            exact ⟨rfl, rfl⟩
                      · have hdg : dg s[k] = 16 := by unfold dg; rw [if_neg hnd, if_neg c2, if_neg c3]
                        rw [rdL_no (by omega)] at hr
                        injection hr with hr1 hr2
                        subst hr1 hr2
                        have H1 := Lib.hid c1
                        have H2 := Lib.hid c2
                        have H3 := Lib.hid c3
                        clear c1 c2 c3 hdg hnd
                        generalize IntKind.u64.wrap (n : Int) = x at *
                        go_wp2
                        all_goals
                          first
                            | (have := H1.out; have := H2.out; have := H3.out; exfalso; omega)
                            | (go_ret2; exact ⟨rfl, rfl⟩)
                · have hke : k = s.size := by omega
                  rw [List.drop_eq_nil_of_le (by rw [size_len]; omega), rdL_nil] at hr
                  injection hr with hr1 hr2
                  subst hr2
                  generalize hx : IntKind.u64.wrap (n : Int) = x at *
                  have hw := Lib.hid (show wrap64 x = V by rw [← hr1, ← hx, wrap_back])
                  clear hx hr1
                  go_wp2
                  go_ret2
                  exact ⟨ret_two (show Value.int .i64 (wrap64 x) = _ by rw [hw.out]) rfl, rfl⟩

            · have g1 : (((s[1].toNat : Int) == 120) : Bool) = false := u8_false s[1] 120 h
              have g2 : (((s[1].toNat : Int) == 88) : Bool) = true := u8_true s[1] 88 h'
              clear h h'
              go_enter Tryz.func26, Tryz.ntmps26
              go_wp2
              go_loop [6, 7, 8, 9] (fun nv iv _ _ => conRel s 16 V B nv iv) (fun _ iv _ _ => s.size - (intOf iv).toNat)
              case atStart => exact ⟨2, 0, rfl, by rfl, by omega, HV.out⟩
              case round =>
                obtain ⟨k, n, rfl, rfl, hk, hr⟩ := hrel
                have hwb := wrap_bounds (n : Int)
                by_cases hlt : k < s.size
                · rw [at_byte hlt] at hr
                  by_cases c1 : 48 ≤ s[k].toNat ∧ s[k].toNat ≤ 57
                  · have hdg : dg s[k] = s[k].toNat - 48 := by unfold dg; rw [if_pos (by unfold isDg; simp [c1])]
                    have he : ((dg s[k] : Nat) : Int) = (s[k].toNat : Int) - 48 := by rw [hdg]; omega
                    have i1 : (48 : Int) ≤ (s[k].toNat : Int) := by omega
                    have i2 : (s[k].toNat : Int) ≤ 57 := by omega
                    by_cases hd : dg s[k] < 16
                    · have hdi : (s[k].toNat : Int) - 48 < 16 := by omega
                      rw [rdL_yes hd] at hr
                      have R := Lib.hid (show conRel s 16 V B (.int .u64 (IntKind.u64.wrap (IntKind.u64.wrap (IntKind.u64.wrap (n : Int) * ((16 : Nat) : Int)) + ((s[k].toNat : Int) - 48)))) (.int .i64 ((k + 1 : Nat) : Int)) from ⟨k + 1, n * 16 + dg s[k], rfl, by rw [← he, wrap_step], hlt, hr⟩)
                      generalize IntKind.u64.wrap (n : Int) = x at *
                      clear hr hd he hdg
                      go_wp2
                      all_goals
                        go_round
                        case rel =>
                          have := R.out
                          first
                            | (simpa using this)
                            | (refine ⟨_, _, _, _, ?_, rfl, rfl, rfl, rfl⟩; simpa using this)
                        case measure => simp [intOf]; omega
                    · have hdi : ¬ (s[k].toNat : Int) - 48 < 16 := by omega
                      rw [rdL_no hd] at hr
                      injection hr with hr1 hr2
                      subst hr1 hr2
                      generalize IntKind.u64.wrap (n : Int) = x at *
                      clear hd he hdg
                      go_wp2
                      all_goals
                        go_ret2
                        exact ⟨rfl, rfl⟩
                  · have hnd : ¬ isDg s[k] = true := fun h => c1 (by unfold isDg at h; simpa using h)
                    by_cases c2 : 97 ≤ s[k].toNat ∧ s[k].toNat ≤ 102
                    · have hdg : dg s[k] = s[k].toNat - 87 := by unfold dg; rw [if_neg hnd, if_pos c2]
                      clear hnd
                      have he : ((dg s[k] : Nat) : Int) = (s[k].toNat : Int) - 97 + 10 := by rw [hdg]; omega
                      have i1 : (97 : Int) ≤ (s[k].toNat : Int) := by omega
                      have i2 : (s[k].toNat : Int) ≤ 102 := by omega
                      by_cases hd : dg s[k] < 16
                      · have hdi : (s[k].toNat : Int) - 97 + 10 < 16 := by omega
                        rw [rdL_yes hd] at hr
                        have R := Lib.hid (show conRel s 16 V B (.int .u64 (IntKind.u64.wrap (IntKind.u64.wrap (IntKind.u64.wrap (n : Int) * ((16 : Nat) : Int)) + ((s[k].toNat : Int) - 97 + 10)))) (.int .i64 ((k + 1 : Nat) : Int)) from ⟨k + 1, n * 16 + dg s[k], rfl, by rw [← he, wrap_step], hlt, hr⟩)
                        generalize IntKind.u64.wrap (n : Int) = x at *
                        clear hr hd he hdg
                        go_wp2
                        all_goals
                          go_round
                          case rel =>
                            have := R.out
                            first
                              | (simpa using this)
                              | (refine ⟨_, _, _, _, ?_, rfl, rfl, rfl, rfl⟩; simpa using this)
                          case measure => simp [intOf]; omega
                      · have hdi : ¬ (s[k].toNat : Int) - 97 + 10 < 16 := by omega
                        rw [rdL_no hd] at hr
                        injection hr with hr1 hr2
                        subst hr1 hr2
                        generalize IntKind.u64.wrap (n : Int) = x at *
                        clear hd he hdg
                        go_wp2
                        all_goals
                          go_ret2
                          exact ⟨rfl, rfl⟩
                    · by_cases c3 : 65 ≤ s[k].toNat ∧ s[k].toNat ≤ 70
                      · have hdg : dg s[k] = s[k].toNat - 55 := by unfold dg; rw [if_neg hnd, if_neg c2, if_pos c3]
                        clear hnd
                        have he : ((dg s[k] : Nat) : Int) = (s[k].toNat : Int) - 65 + 10 := by rw [hdg]; omega
                        have i1 : (65 : Int) ≤ (s[k].toNat : Int) := by omega
                        have i2 : (s[k].toNat : Int) ≤ 70 := by omega
                        by_cases hd : dg s[k] < 16
                        · have hdi : (s[k].toNat : Int) - 65 + 10 < 16 := by omega
                          rw [rdL_yes hd] at hr
                          have R := Lib.hid (show conRel s 16 V B (.int .u64 (IntKind.u64.wrap (IntKind.u64.wrap (IntKind.u64.wrap (n : Int) * ((16 : Nat) : Int)) + ((s[k].toNat : Int) - 65 + 10)))) (.int .i64 ((k + 1 : Nat) : Int)) from ⟨k + 1, n * 16 + dg s[k], rfl, by rw [← he, wrap_step], hlt, hr⟩)
                          generalize IntKind.u64.wrap (n : Int) = x at *
                          clear hr hd he hdg
                          go_wp2
                          all_goals
                            go_round
                            case rel =>
                              have := R.out
                              first
                                | (simpa using this)
                                | (refine ⟨_, _, _, _, ?_, rfl, rfl, rfl, rfl⟩; simpa using this)
                            case measure => simp [intOf]; omega
                        · have hdi : ¬ (s[k].toNat : Int) - 65 + 10 < 16 := by omega
                          rw [rdL_no hd] at hr
                          injection hr with hr1 hr2
                          subst hr1 hr2
                          generalize IntKind.u64.wrap (n : Int) = x at *
                          clear hd he hdg
                          go_wp2
                          all_goals
                            go_ret2
                            exact ⟨rfl, rfl⟩
                      · have hdg : dg s[k] = 16 := by unfold dg; rw [if_neg hnd, if_neg c2, if_neg c3]
                        rw [rdL_no (by omega)] at hr
                        injection hr with hr1 hr2
                        subst hr1 hr2
                        have H1 := Lib.hid c1
                        have H2 := Lib.hid c2
                        have H3 := Lib.hid c3
                        clear c1 c2 c3 hdg hnd
                        generalize IntKind.u64.wrap (n : Int) = x at *
                        go_wp2
                        all_goals
                          first
                            | (have := H1.out; have := H2.out; have := H3.out; exfalso; omega)
                            | (go_ret2; exact ⟨rfl, rfl⟩)
                · have hke : k = s.size := by omega
                  rw [List.drop_eq_nil_of_le (by rw [size_len]; omega), rdL_nil] at hr
                  injection hr with hr1 hr2
                  subst hr2
                  generalize hx : IntKind.u64.wrap (n : Int) = x at *
                  have hw := Lib.hid (show wrap64 x = V by rw [← hr1, ← hx, wrap_back])
                  clear hx hr1
                  go_wp2
                  go_ret2
                  exact ⟨ret_two (show Value.int .i64 (wrap64 x) = _ by rw [hw.out]) rfl, rfl⟩

        · rw [hq2, con_oct (fun x q h => by injection h with h1 h2; rw [← h1]; exact hx), ← hq2] at hVB
          have HV := Lib.hid hVB
          have g1 : (((s[1].toNat : Int) == 120) : Bool) = false := u8_false s[1] 120 (fun h => hx (.inl h))
          have g2 : (((s[1].toNat : Int) == 88) : Bool) = false := u8_false s[1] 88 (fun h => hx (.inr h))
          clear hq hq2 hx e0 hVB
          go_enter Tryz.func26, Tryz.ntmps26
          go_wp2
          go_loop [6, 7, 8, 9] (fun nv iv _ _ => conRel s 8 V B nv iv) (fun _ iv _ _ => s.size - (intOf iv).toNat)
          case atStart => exact ⟨0, 0, rfl, by rfl, by omega, by rw [List.drop_zero]; exact HV.out⟩
          case round =>
            obtain ⟨k, n, rfl, rfl, hk, hr⟩ := hrel
            have hwb := wrap_bounds (n : Int)
            by_cases hlt : k < s.size
            · rw [at_byte hlt] at hr
              by_cases c1 : 48 ≤ s[k].toNat ∧ s[k].toNat ≤ 57
              · have hdg : dg s[k] = s[k].toNat - 48 := by unfold dg; rw [if_pos (by unfold isDg; simp [c1])]
                have he : ((dg s[k] : Nat) : Int) = (s[k].toNat : Int) - 48 := by rw [hdg]; omega
                have i1 : (48 : Int) ≤ (s[k].toNat : Int) := by omega
                have i2 : (s[k].toNat : Int) ≤ 57 := by omega
                by_cases hd : dg s[k] < 8
                · have hdi : (s[k].toNat : Int) - 48 < 8 := by omega
                  rw [rdL_yes hd] at hr
                  have R := Lib.hid (show conRel s 8 V B (.int .u64 (IntKind.u64.wrap (IntKind.u64.wrap (IntKind.u64.wrap (n : Int) * ((8 : Nat) : Int)) + ((s[k].toNat : Int) - 48)))) (.int .i64 ((k + 1 : Nat) : Int)) from ⟨k + 1, n * 8 + dg s[k], rfl, by rw [← he, wrap_step], hlt, hr⟩)
                  generalize IntKind.u64.wrap (n : Int) = x at *
                  clear hr hd he hdg
                  go_wp2
                  all_goals
                    go_round
                    case rel =>
                      have := R.out
                      first
                        | (simpa using this)
                        | (refine ⟨_, _, _, _, ?_, rfl, rfl, rfl, rfl⟩; simpa using this)
                    case measure => simp [intOf]; omega
                · have hdi : ¬ (s[k].toNat : Int) - 48 < 8 := by omega
                  rw [rdL_no hd] at hr
                  injection hr with hr1 hr2
                  subst hr1 hr2
                  generalize IntKind.u64.wrap (n : Int) = x at *
                  clear hd he hdg
                  go_wp2
                  all_goals
                    go_ret2
                    exact ⟨rfl, rfl⟩
              · have hnd : ¬ isDg s[k] = true := fun h => c1 (by unfold isDg at h; simpa using h)
                by_cases c2 : 97 ≤ s[k].toNat ∧ s[k].toNat ≤ 102
                · have hdg : dg s[k] = s[k].toNat - 87 := by unfold dg; rw [if_neg hnd, if_pos c2]
                  clear hnd
                  have he : ((dg s[k] : Nat) : Int) = (s[k].toNat : Int) - 97 + 10 := by rw [hdg]; omega
                  have i1 : (97 : Int) ≤ (s[k].toNat : Int) := by omega
                  have i2 : (s[k].toNat : Int) ≤ 102 := by omega
                  by_cases hd : dg s[k] < 8
                  · have hdi : (s[k].toNat : Int) - 97 + 10 < 8 := by omega
                    rw [rdL_yes hd] at hr
                    have R := Lib.hid (show conRel s 8 V B (.int .u64 (IntKind.u64.wrap (IntKind.u64.wrap (IntKind.u64.wrap (n : Int) * ((8 : Nat) : Int)) + ((s[k].toNat : Int) - 97 + 10)))) (.int .i64 ((k + 1 : Nat) : Int)) from ⟨k + 1, n * 8 + dg s[k], rfl, by rw [← he, wrap_step], hlt, hr⟩)
                    generalize IntKind.u64.wrap (n : Int) = x at *
                    clear hr hd he hdg
                    go_wp2
                    all_goals
                      go_round
                      case rel =>
                        have := R.out
                        first
                          | (simpa using this)
                          | (refine ⟨_, _, _, _, ?_, rfl, rfl, rfl, rfl⟩; simpa using this)
                      case measure => simp [intOf]; omega
                  · have hdi : ¬ (s[k].toNat : Int) - 97 + 10 < 8 := by omega
                    rw [rdL_no hd] at hr
                    injection hr with hr1 hr2
                    subst hr1 hr2
                    generalize IntKind.u64.wrap (n : Int) = x at *
                    clear hd he hdg
                    go_wp2
                    all_goals
                      go_ret2
                      exact ⟨rfl, rfl⟩
                · by_cases c3 : 65 ≤ s[k].toNat ∧ s[k].toNat ≤ 70
                  · have hdg : dg s[k] = s[k].toNat - 55 := by unfold dg; rw [if_neg hnd, if_neg c2, if_pos c3]
                    clear hnd
                    have he : ((dg s[k] : Nat) : Int) = (s[k].toNat : Int) - 65 + 10 := by rw [hdg]; omega
                    have i1 : (65 : Int) ≤ (s[k].toNat : Int) := by omega
                    have i2 : (s[k].toNat : Int) ≤ 70 := by omega
                    by_cases hd : dg s[k] < 8
                    · have hdi : (s[k].toNat : Int) - 65 + 10 < 8 := by omega
                      rw [rdL_yes hd] at hr
                      have R := Lib.hid (show conRel s 8 V B (.int .u64 (IntKind.u64.wrap (IntKind.u64.wrap (IntKind.u64.wrap (n : Int) * ((8 : Nat) : Int)) + ((s[k].toNat : Int) - 65 + 10)))) (.int .i64 ((k + 1 : Nat) : Int)) from ⟨k + 1, n * 8 + dg s[k], rfl, by rw [← he, wrap_step], hlt, hr⟩)
                      generalize IntKind.u64.wrap (n : Int) = x at *
                      clear hr hd he hdg
                      go_wp2
                      all_goals
                        go_round
                        case rel =>
                          have := R.out
                          first
                            | (simpa using this)
                            | (refine ⟨_, _, _, _, ?_, rfl, rfl, rfl, rfl⟩; simpa using this)
                        case measure => simp [intOf]; omega
                    · have hdi : ¬ (s[k].toNat : Int) - 65 + 10 < 8 := by omega
                      rw [rdL_no hd] at hr
                      injection hr with hr1 hr2
                      subst hr1 hr2
                      generalize IntKind.u64.wrap (n : Int) = x at *
                      clear hd he hdg
                      go_wp2
                      all_goals
                        go_ret2
                        exact ⟨rfl, rfl⟩
                  · have hdg : dg s[k] = 16 := by unfold dg; rw [if_neg hnd, if_neg c2, if_neg c3]
                    rw [rdL_no (by omega)] at hr
                    injection hr with hr1 hr2
                    subst hr1 hr2
                    have H1 := Lib.hid c1
                    have H2 := Lib.hid c2
                    have H3 := Lib.hid c3
                    clear c1 c2 c3 hdg hnd
                    generalize IntKind.u64.wrap (n : Int) = x at *
                    go_wp2
                    all_goals
                      first
                        | (have := H1.out; have := H2.out; have := H3.out; exfalso; omega)
                        | (go_ret2; exact ⟨rfl, rfl⟩)
            · have hke : k = s.size := by omega
              rw [List.drop_eq_nil_of_le (by rw [size_len]; omega), rdL_nil] at hr
              injection hr with hr1 hr2
              subst hr2
              generalize hx : IntKind.u64.wrap (n : Int) = x at *
              have hw := Lib.hid (show wrap64 x = V by rw [← hr1, ← hx, wrap_back])
              clear hx hr1
              go_wp2
              go_ret2
              exact ⟨ret_two (show Value.int .i64 (wrap64 x) = _ by rw [hw.out]) rfl, rfl⟩

      · have hq2 : s.data.toList = [(48 : UInt8)] := by
          have h1' := at_byte (s := s) (k := 0) h0
          rw [List.drop_zero, Nat.zero_add, e0, List.drop_eq_nil_of_le (by rw [size_len]; omega)] at h1'
          exact h1'
        rw [hq2, con_oct (fun x q h => by cases h), ← hq2] at hVB
        have HV := Lib.hid hVB
        clear hq hq2 e0 hVB
        go_enter Tryz.func26, Tryz.ntmps26
        go_wp2
        go_loop [6, 7, 8, 9] (fun nv iv _ _ => conRel s 8 V B nv iv) (fun _ iv _ _ => s.size - (intOf iv).toNat)
        case atStart => exact ⟨0, 0, rfl, by rfl, by omega, by rw [List.drop_zero]; exact HV.out⟩
        case round =>
          obtain ⟨k, n, rfl, rfl, hk, hr⟩ := hrel
          have hwb := wrap_bounds (n : Int)
          by_cases hlt : k < s.size
          · rw [at_byte hlt] at hr
            by_cases c1 : 48 ≤ s[k].toNat ∧ s[k].toNat ≤ 57
            · have hdg : dg s[k] = s[k].toNat - 48 := by unfold dg; rw [if_pos (by unfold isDg; simp [c1])]
              have he : ((dg s[k] : Nat) : Int) = (s[k].toNat : Int) - 48 := by rw [hdg]; omega
              have i1 : (48 : Int) ≤ (s[k].toNat : Int) := by omega
              have i2 : (s[k].toNat : Int) ≤ 57 := by omega
              by_cases hd : dg s[k] < 8
              · have hdi : (s[k].toNat : Int) - 48 < 8 := by omega
                rw [rdL_yes hd] at hr
                have R := Lib.hid (show conRel s 8 V B (.int .u64 (IntKind.u64.wrap (IntKind.u64.wrap (IntKind.u64.wrap (n : Int) * ((8 : Nat) : Int)) + ((s[k].toNat : Int) - 48)))) (.int .i64 ((k + 1 : Nat) : Int)) from ⟨k + 1, n * 8 + dg s[k], rfl, by rw [← he, wrap_step], hlt, hr⟩)
                generalize IntKind.u64.wrap (n : Int) = x at *
                clear hr hd he hdg
                go_wp2
                all_goals
                  go_round
                  case rel =>
                    have := R.out
                    first
                      | (simpa using this)
                      | (refine ⟨_, _, _, _, ?_, rfl, rfl, rfl, rfl⟩; simpa using this)
                  case measure => simp [intOf]; omega
              · have hdi : ¬ (s[k].toNat : Int) - 48 < 8 := by omega
                rw [rdL_no hd] at hr
                injection hr with hr1 hr2
                subst hr1 hr2
                generalize IntKind.u64.wrap (n : Int) = x at *
                clear hd he hdg
                go_wp2
                all_goals
                  go_ret2
                  exact ⟨rfl, rfl⟩
            · have hnd : ¬ isDg s[k] = true := fun h => c1 (by unfold isDg at h; simpa using h)
              by_cases c2 : 97 ≤ s[k].toNat ∧ s[k].toNat ≤ 102
              · have hdg : dg s[k] = s[k].toNat - 87 := by unfold dg; rw [if_neg hnd, if_pos c2]
                clear hnd
                have he : ((dg s[k] : Nat) : Int) = (s[k].toNat : Int) - 97 + 10 := by rw [hdg]; omega
                have i1 : (97 : Int) ≤ (s[k].toNat : Int) := by omega
                have i2 : (s[k].toNat : Int) ≤ 102 := by omega
                by_cases hd : dg s[k] < 8
                · have hdi : (s[k].toNat : Int) - 97 + 10 < 8 := by omega
                  rw [rdL_yes hd] at hr
                  have R := Lib.hid (show conRel s 8 V B (.int .u64 (IntKind.u64.wrap (IntKind.u64.wrap (IntKind.u64.wrap (n : Int) * ((8 : Nat) : Int)) + ((s[k].toNat : Int) - 97 + 10)))) (.int .i64 ((k + 1 : Nat) : Int)) from ⟨k + 1, n * 8 + dg s[k], rfl, by rw [← he, wrap_step], hlt, hr⟩)
                  generalize IntKind.u64.wrap (n : Int) = x at *
                  clear hr hd he hdg
                  go_wp2
                  all_goals
                    go_round
                    case rel =>
                      have := R.out
                      first
                        | (simpa using this)
                        | (refine ⟨_, _, _, _, ?_, rfl, rfl, rfl, rfl⟩; simpa using this)
                    case measure => simp [intOf]; omega
                · have hdi : ¬ (s[k].toNat : Int) - 97 + 10 < 8 := by omega
                  rw [rdL_no hd] at hr
                  injection hr with hr1 hr2
                  subst hr1 hr2
                  generalize IntKind.u64.wrap (n : Int) = x at *
                  clear hd he hdg
                  go_wp2
                  all_goals
                    go_ret2
                    exact ⟨rfl, rfl⟩
              · by_cases c3 : 65 ≤ s[k].toNat ∧ s[k].toNat ≤ 70
                · have hdg : dg s[k] = s[k].toNat - 55 := by unfold dg; rw [if_neg hnd, if_neg c2, if_pos c3]
                  clear hnd
                  have he : ((dg s[k] : Nat) : Int) = (s[k].toNat : Int) - 65 + 10 := by rw [hdg]; omega
                  have i1 : (65 : Int) ≤ (s[k].toNat : Int) := by omega
                  have i2 : (s[k].toNat : Int) ≤ 70 := by omega
                  by_cases hd : dg s[k] < 8
                  · have hdi : (s[k].toNat : Int) - 65 + 10 < 8 := by omega
                    rw [rdL_yes hd] at hr
                    have R := Lib.hid (show conRel s 8 V B (.int .u64 (IntKind.u64.wrap (IntKind.u64.wrap (IntKind.u64.wrap (n : Int) * ((8 : Nat) : Int)) + ((s[k].toNat : Int) - 65 + 10)))) (.int .i64 ((k + 1 : Nat) : Int)) from ⟨k + 1, n * 8 + dg s[k], rfl, by rw [← he, wrap_step], hlt, hr⟩)
                    generalize IntKind.u64.wrap (n : Int) = x at *
                    clear hr hd he hdg
                    go_wp2
                    all_goals
                      go_round
                      case rel =>
                        have := R.out
                        first
                          | (simpa using this)
                          | (refine ⟨_, _, _, _, ?_, rfl, rfl, rfl, rfl⟩; simpa using this)
                      case measure => simp [intOf]; omega
                  · have hdi : ¬ (s[k].toNat : Int) - 65 + 10 < 8 := by omega
                    rw [rdL_no hd] at hr
                    injection hr with hr1 hr2
                    subst hr1 hr2
                    generalize IntKind.u64.wrap (n : Int) = x at *
                    clear hd he hdg
                    go_wp2
                    all_goals
                      go_ret2
                      exact ⟨rfl, rfl⟩
                · have hdg : dg s[k] = 16 := by unfold dg; rw [if_neg hnd, if_neg c2, if_neg c3]
                  rw [rdL_no (by omega)] at hr
                  injection hr with hr1 hr2
                  subst hr1 hr2
                  have H1 := Lib.hid c1
                  have H2 := Lib.hid c2
                  have H3 := Lib.hid c3
                  clear c1 c2 c3 hdg hnd
                  generalize IntKind.u64.wrap (n : Int) = x at *
                  go_wp2
                  all_goals
                    first
                      | (have := H1.out; have := H2.out; have := H3.out; exfalso; omega)
                      | (go_ret2; exact ⟨rfl, rfl⟩)
          · have hke : k = s.size := by omega
            rw [List.drop_eq_nil_of_le (by rw [size_len]; omega), rdL_nil] at hr
            injection hr with hr1 hr2
            subst hr2
            generalize hx : IntKind.u64.wrap (n : Int) = x at *
            have hw := Lib.hid (show wrap64 x = V by rw [← hr1, ← hx, wrap_back])
            clear hx hr1
            go_wp2
            go_ret2
            exact ⟨ret_two (show Value.int .i64 (wrap64 x) = _ by rw [hw.out]) rfl, rfl⟩

    · have g0 : (((s[0].toNat : Int) == 48) : Bool) = false := u8_false s[0] 48 e0
      rw [hq, con_dec e0, ← hq] at hVB
      have HV := Lib.hid hVB
      clear hVB e0 hq
      by_cases h1 : 1 < s.size
      all_goals
        go_enter Tryz.func26, Tryz.ntmps26
        go_wp2
        go_loop [6, 7, 8, 9] (fun nv iv _ _ => conRel s 10 V B nv iv) (fun _ iv _ _ => s.size - (intOf iv).toNat)
        case atStart => exact ⟨0, 0, rfl, by rfl, by omega, by rw [List.drop_zero]; exact HV.out⟩
        case round =>
          obtain ⟨k, n, rfl, rfl, hk, hr⟩ := hrel
          have hwb := wrap_bounds (n : Int)
          by_cases hlt : k < s.size
          · rw [at_byte hlt] at hr
            by_cases c1 : 48 ≤ s[k].toNat ∧ s[k].toNat ≤ 57
            · have hdg : dg s[k] = s[k].toNat - 48 := by unfold dg; rw [if_pos (by unfold isDg; simp [c1])]
              have he : ((dg s[k] : Nat) : Int) = (s[k].toNat : Int) - 48 := by rw [hdg]; omega
              have i1 : (48 : Int) ≤ (s[k].toNat : Int) := by omega
              have i2 : (s[k].toNat : Int) ≤ 57 := by omega
              by_cases hd : dg s[k] < 10
              · have hdi : (s[k].toNat : Int) - 48 < 10 := by omega
                rw [rdL_yes hd] at hr
                have R := Lib.hid (show conRel s 10 V B (.int .u64 (IntKind.u64.wrap (IntKind.u64.wrap (IntKind.u64.wrap (n : Int) * ((10 : Nat) : Int)) + ((s[k].toNat : Int) - 48)))) (.int .i64 ((k + 1 : Nat) : Int)) from ⟨k + 1, n * 10 + dg s[k], rfl, by rw [← he, wrap_step], hlt, hr⟩)
                generalize IntKind.u64.wrap (n : Int) = x at *
                clear hr hd he hdg
                go_wp2
                all_goals
                  go_round
                  case rel =>
                    have := R.out
                    first
                      | (simpa using this)
                      | (refine ⟨_, _, _, _, ?_, rfl, rfl, rfl, rfl⟩; simpa using this)
                  case measure => simp [intOf]; omega
              · have hdi : ¬ (s[k].toNat : Int) - 48 < 10 := by omega
                rw [rdL_no hd] at hr
                injection hr with hr1 hr2
                subst hr1 hr2
                generalize IntKind.u64.wrap (n : Int) = x at *
                clear hd he hdg
                go_wp2
                all_goals
                  go_ret2
                  exact ⟨rfl, rfl⟩
            · have hnd : ¬ isDg s[k] = true := fun h => c1 (by unfold isDg at h; simpa using h)
              by_cases c2 : 97 ≤ s[k].toNat ∧ s[k].toNat ≤ 102
              · have hdg : dg s[k] = s[k].toNat - 87 := by unfold dg; rw [if_neg hnd, if_pos c2]
                clear hnd
                have he : ((dg s[k] : Nat) : Int) = (s[k].toNat : Int) - 97 + 10 := by rw [hdg]; omega
                have i1 : (97 : Int) ≤ (s[k].toNat : Int) := by omega
                have i2 : (s[k].toNat : Int) ≤ 102 := by omega
                by_cases hd : dg s[k] < 10
                · have hdi : (s[k].toNat : Int) - 97 + 10 < 10 := by omega
                  rw [rdL_yes hd] at hr
                  have R := Lib.hid (show conRel s 10 V B (.int .u64 (IntKind.u64.wrap (IntKind.u64.wrap (IntKind.u64.wrap (n : Int) * ((10 : Nat) : Int)) + ((s[k].toNat : Int) - 97 + 10)))) (.int .i64 ((k + 1 : Nat) : Int)) from ⟨k + 1, n * 10 + dg s[k], rfl, by rw [← he, wrap_step], hlt, hr⟩)
                  generalize IntKind.u64.wrap (n : Int) = x at *
                  clear hr hd he hdg
                  go_wp2
                  all_goals
                    go_round
                    case rel =>
                      have := R.out
                      first
                        | (simpa using this)
                        | (refine ⟨_, _, _, _, ?_, rfl, rfl, rfl, rfl⟩; simpa using this)
                    case measure => simp [intOf]; omega
                · have hdi : ¬ (s[k].toNat : Int) - 97 + 10 < 10 := by omega
                  rw [rdL_no hd] at hr
                  injection hr with hr1 hr2
                  subst hr1 hr2
                  generalize IntKind.u64.wrap (n : Int) = x at *
                  clear hd he hdg
                  go_wp2
                  all_goals
                    go_ret2
                    exact ⟨rfl, rfl⟩
              · by_cases c3 : 65 ≤ s[k].toNat ∧ s[k].toNat ≤ 70
                · have hdg : dg s[k] = s[k].toNat - 55 := by unfold dg; rw [if_neg hnd, if_neg c2, if_pos c3]
                  clear hnd
                  have he : ((dg s[k] : Nat) : Int) = (s[k].toNat : Int) - 65 + 10 := by rw [hdg]; omega
                  have i1 : (65 : Int) ≤ (s[k].toNat : Int) := by omega
                  have i2 : (s[k].toNat : Int) ≤ 70 := by omega
                  by_cases hd : dg s[k] < 10
                  · have hdi : (s[k].toNat : Int) - 65 + 10 < 10 := by omega
                    rw [rdL_yes hd] at hr
                    have R := Lib.hid (show conRel s 10 V B (.int .u64 (IntKind.u64.wrap (IntKind.u64.wrap (IntKind.u64.wrap (n : Int) * ((10 : Nat) : Int)) + ((s[k].toNat : Int) - 65 + 10)))) (.int .i64 ((k + 1 : Nat) : Int)) from ⟨k + 1, n * 10 + dg s[k], rfl, by rw [← he, wrap_step], hlt, hr⟩)
                    generalize IntKind.u64.wrap (n : Int) = x at *
                    clear hr hd he hdg
                    go_wp2
                    all_goals
                      go_round
                      case rel =>
                        have := R.out
                        first
                          | (simpa using this)
                          | (refine ⟨_, _, _, _, ?_, rfl, rfl, rfl, rfl⟩; simpa using this)
                      case measure => simp [intOf]; omega
                  · have hdi : ¬ (s[k].toNat : Int) - 65 + 10 < 10 := by omega
                    rw [rdL_no hd] at hr
                    injection hr with hr1 hr2
                    subst hr1 hr2
                    generalize IntKind.u64.wrap (n : Int) = x at *
                    clear hd he hdg
                    go_wp2
                    all_goals
                      go_ret2
                      exact ⟨rfl, rfl⟩
                · have hdg : dg s[k] = 16 := by unfold dg; rw [if_neg hnd, if_neg c2, if_neg c3]
                  rw [rdL_no (by omega)] at hr
                  injection hr with hr1 hr2
                  subst hr1 hr2
                  have H1 := Lib.hid c1
                  have H2 := Lib.hid c2
                  have H3 := Lib.hid c3
                  clear c1 c2 c3 hdg hnd
                  generalize IntKind.u64.wrap (n : Int) = x at *
                  go_wp2
                  all_goals
                    first
                      | (have := H1.out; have := H2.out; have := H3.out; exfalso; omega)
                      | (go_ret2; exact ⟨rfl, rfl⟩)
          · have hke : k = s.size := by omega
            rw [List.drop_eq_nil_of_le (by rw [size_len]; omega), rdL_nil] at hr
            injection hr with hr1 hr2
            subst hr2
            generalize hx : IntKind.u64.wrap (n : Int) = x at *
            have hw := Lib.hid (show wrap64 x = V by rw [← hr1, ← hx, wrap_back])
            clear hx hr1
            go_wp2
            go_ret2
            exact ⟨ret_two (show Value.int .i64 (wrap64 x) = _ by rw [hw.out]) rfl, rfl⟩

  · have hnil : s.data.toList = [] := List.length_eq_zero_iff.1 (by rw [size_len]; omega)
    rw [hnil, conP, if_neg (fun h => h.1 rfl)] at hVB
    injection hVB with h1 h2
    subst h1 h2
    clear hnil
    go_enter Tryz.func26, Tryz.ntmps26
    go_wp2
    go_ret2
    exact ⟨rfl, rfl⟩
end Go.Proofs.YtbmnngliapmgfaaGreatDoor
