/- The document's All. -/
import Derived.Test.YtoahgblgchmclaaLT
import Derived.Test.YtoahgblgchmclaaLQ
namespace Go.Proofs.Ytoahgblgchmclaa
open Go.RowKit
set_option linter.unusedVariables false
set_option linter.unusedSimpArgs false
theorem u8_ne (c d : UInt8) (h : ¬ c = d) : (((c.toNat : Int) != (d.toNat : Int)) : Bool) = true := by rw [bne, u8_false _ _ h]; rfl
theorem u8_nn (c d : UInt8) (h : c = d) : (((c.toNat : Int) != (d.toNat : Int)) : Bool) = false := by rw [bne, u8_true _ _ h]; rfl
theorem row_fr' {S : Nat → Prop} {W W' : World} {B : Nat} {v : Value} {ts : List Tk} (h : Row W B v ts) (f : Fr S W W') (hs : ∀ k, v.ownBlock = some k → ¬ S k) : Row W' B v ts := by
  refine ⟨h.1, ?_⟩
  rcases h.2 with hn | ⟨g, cap, cur, rfl, hb, hg, rest⟩
  · exact .inl hn
  · exact .inr ⟨g, cap, cur, rfl, hb, (f.block g (heap_lt hg) (hs g rfl)).trans hg, rest⟩
def raRel (W : World) (s : ByteArray) (A : Ans) (ov iv : Value) (wr : World) : Prop :=
  ∃ (i : Nat) (ts : List Tk), iv = .int .i64 i ∧ Row wr W.heap.size ov ts ∧ Fr (fun _ => False) W wr ∧ i ≤ s.size ∧ To s.data.toList i ts A ∧ ts.length ≤ 400
theorem row_grown' {W w w5 : World} {v : Value} (F : Fr (fun _ => False) W w) (hB : ∀ k, v.ownBlock = some k → W.heap.size ≤ k) (g : w.grownBy w5 v.ownBlock) : Fr (fun _ => False) W w5 :=
  row_grown F (Nat.le_refl _) hB g
set_option maxRecDepth 100000 in
set_option maxHeartbeats 64000000 in
theorem rAll_loop (s : ByteArray) (hs : s.size ≤ 4096) (W : World) :
    Calls Try.prog 11 #[.string s] W (allPost W (allL s.data.toList s.data.toList.length 0 [])) := by
  have hs' : s.size ≤ maxLen := by unfold maxLen; omega
  obtain ⟨i0, hi, hz0, hz1, hz2⟩ := info_tok
  obtain ⟨A, hA⟩ : ∃ A, allL s.data.toList s.data.toList.length 0 [] = A := ⟨_, rfl⟩
  rw [hA]
  have HT0 := Lib.hid (show To s.data.toList 0 [] A from ⟨_, by omega, hA⟩)
  clear hA
  go_enter Try.func11, Try.ntmps11
  go_wp2
  go_loopw [5, 6, 7, 8, 9, 10, 11] (fun ov iv _ _ _ _ _ wr => raRel W s A ov iv wr) (fun _ iv _ _ _ _ _ _ => s.size - (intOf iv).toNat)
  case atStart => exact ⟨0, [], rfl, Row.none _ _, Fr.refl _ _, Nat.zero_le _, HT0.out, Nat.zero_le _⟩
  case round =>
    obtain ⟨i, ts, rfl, hrow, hF, hi', hto, hlen⟩ := hrel
    clear HT0
    have HF := Lib.hid hF
    have HROW := Lib.hid hrow
    have HWS := Lib.hid hF.size
    obtain ⟨ao, cap, rfl, hcap⟩ := hrow.slice
    clear hF hrow
    by_cases his : i < s.size
    · have hll : i < s.data.toList.length := by rw [size_len]; exact his
      have hgd := getD_at his
      by_cases hb : s[i] = 32 ∨ s[i] = 9
      · have HV := Lib.hid (hto.blank hll (by rw [hgd]; exact hb))
        rcases hb with hb | hb
        · have g1 : (((s[i].toNat : Int) == 32) : Bool) = true := u8_true s[i] 32 hb
          clear hto hgd hb
          go_wp2
          go_roundw
          case rel => exact ⟨i + 1, ts, by go_num, HROW.out, HF.out, his, HV.out, hlen⟩
          case measure => simp [intOf]; omega
        · have g1 : (((s[i].toNat : Int) == 32) : Bool) = false := u8_false s[i] 32 (by rw [hb]; decide)
          have g2 : (((s[i].toNat : Int) == 9) : Bool) = true := u8_true s[i] 9 hb
          clear hto hgd hb
          go_wp2
          go_roundw
          case rel => exact ⟨i + 1, ts, by go_num, HROW.out, HF.out, his, HV.out, hlen⟩
          case measure => simp [intOf]; omega
      · have g1 : (((s[i].toNat : Int) == 32) : Bool) = false := u8_false s[i] 32 (fun h => hb (.inl h))
        have g2 : (((s[i].toNat : Int) == 9) : Bool) = false := u8_false s[i] 9 (fun h => hb (.inr h))
        have BN := Lib.hid (fun v hv w => (show Calls Try.prog 16 #[.string (s.extract i s.size), .string ⟨#[92, 10]⟩] w fun e w' => e = .returned (.bool v) ∧ w' = w from beg_call (s.extract i s.size) [92, 10] v hv (Nat.le_trans (by simp) hs') (by decide) w))
        have hpre : pre [92, 10] (s.extract i s.size).data.toList = decide (s[i] = 92 ∧ (s.data.toList.drop (i + 1)).head? = some 10) := by
          rw [extract_drop, st_data, at_byte his, pre_two]
        by_cases hn : s[i] = 92 ∧ (s.data.toList.drop (i + 1)).head? = some 10
        · have BN := Lib.hid (BN.out true (by rw [hpre]; exact decide_eq_true hn))
          have hi2 : i + 1 < s.size := by
            refine Nat.lt_of_not_le fun hn' => ?_
            have := hn.2
            rw [List.drop_eq_nil_of_le (by rw [size_len]; omega)] at this
            simp at this
          have HV := Lib.hid (hto.nl hll (show isNl _ _ from ⟨by rw [hgd]; exact hn.1, hn.2⟩))
          clear hto hgd hb hpre hn
          go_wp2_with (go_at_call 16; (with_reducible refine (BN.out _).mono ?_); rintro e w' ⟨rfl, rfl⟩)
          go_roundw
          case rel => exact ⟨i + 2, ts, by go_num, HROW.out, HF.out, hi2, HV.out, hlen⟩
          case measure => simp [intOf]; omega
        · have BN := Lib.hid (BN.out false (by rw [hpre]; exact decide_eq_false hn))
          clear hpre
          by_cases h35 : s[i] = 35
          · have g3 : (((s[i].toNat : Int) == 35) : Bool) = true := u8_true s[i] 35 h35
            have hcm := cmt_at s i his
            rw [if_neg (by rw [h35]; decide)] at hcm
            have hge := cmt_ge s.data.toList (i + 1)
            have hle := cmt_le s (i + 1) his
            obtain ⟨m, hm⟩ : ∃ m, cmt s.data.toList (i + 1) = m := ⟨_, rfl⟩
            have hv := hto.cmt hll (by rw [hgd]; exact h35) (by omega)
            rw [hcm, hm] at hv
            rw [hm] at hge hle hcm
            have hml := hle.2
            have HV := Lib.hid hv
            have HM0 := Lib.hid hcm
            clear hto hgd hb hn hv hcm hle hm
            go_wp2_with (go_at_call 16; (with_reducible refine (BN.out _).mono ?_); rintro e w' ⟨rfl, rfl⟩)
            go_loop [6] (fun kv => (∃ j : Nat, kv = .int .i64 j ∧ i ≤ j ∧ j ≤ m ∧ cmt s.data.toList j = m)) (fun kv => m - (intOf kv).toNat)
            case atStart => exact ⟨i, rfl, Nat.le_refl _, by omega, HM0.out⟩
            case round =>
              obtain ⟨j, rfl, hkj, hjm, hcj⟩ := hrel
              by_cases hj : j < m
              · have hjs : j < s.size := by omega
                rw [cmt_at s j hjs] at hcj
                have h10 : ¬ s[j] = 10 := fun h => by rw [if_pos h] at hcj; omega
                rw [if_neg h10] at hcj
                have g6 : (((s[j].toNat : Int) != 10) : Bool) = true := u8_ne s[j] 10 h10
                have HJ := Lib.hid hcj
                clear hcj h10
                go_wp2
                go_round
                case rel => exact ⟨j + 1, by go_num, by omega, hj, HJ.out⟩
                case measure => simp [intOf]; omega
              · obtain rfl : j = m := by omega
                by_cases hja : j < s.size
                · have h10 : s[j] = 10 := by
                    rw [cmt_at s j hja] at hcj
                    by_cases h : s[j] = 10
                    · exact h
                    · rw [if_neg h] at hcj
                      have := cmt_ge s.data.toList (j + 1)
                      omega
                  have g6 : (((s[j].toNat : Int) != 10) : Bool) = false := u8_nn s[j] 10 h10
                  clear hcj h10
                  go_wp2
                  go_roundw
                  case rel => exact ⟨j, ts, rfl, HROW.out, HF.out, by omega, HV.out, hlen⟩
                  case measure => simp [intOf]; omega
                · obtain rfl : j = s.size := by omega
                  clear hcj
                  go_wp2
                  go_roundw
                  case rel => exact ⟨s.size, ts, rfl, HROW.out, HF.out, by omega, HV.out, hlen⟩
                  case measure => simp [intOf]; omega
          · have g3 : (((s[i].toNat : Int) == 35) : Bool) = false := u8_false s[i] 35 h35
            have hbeg : Beg s.data.toList i := ⟨by rw [hgd]; exact hb, fun h => hn ⟨by rw [← hgd]; exact h.1, h.2⟩, by rw [hgd]; exact h35⟩
            clear hb hn h35
            by_cases h400 : ts.length = 400
            · have HV := Lib.hid (hto.many hll hbeg h400)
              clear hto hgd
              go_wp2_with (go_at_call 16; (with_reducible refine (BN.out _).mono ?_); rintro e w' ⟨rfl, rfl⟩)
              go_ret3
              rw [HV.out]
              exact ⟨_, rfl, Row.none _ _, HF.out⟩
            · have hst := hto.step hll hbeg h400
              have CS := Lib.hid (fun w => (show Calls Try.prog 17 #[.string (s.extract i s.size)] w fun e w' => e = .returned (.string (st ((s.data.toList.drop i).take (sg (s.data.toList.drop i))))) ∧ Fr (fun _ => False) w w' from by
                have := rsign_any (s.extract i s.size) (Nat.le_trans (by simp) hs') w
                rwa [extract_drop, st_data, ← extract_drop] at this))
              have hsl := sg_len (s.data.toList.drop i)
              rw [List.length_drop, size_len] at hsl
              by_cases h0 : 0 < sg (s.data.toList.drop i)
              · unfold tkR at hst
                rw [if_pos h0] at hst
                have hst2 : To s.data.toList (i + sg (s.data.toList.drop i)) (ts ++ [⟨2, mid s.data.toList i (i + sg (s.data.toList.drop i)), i⟩]) A := by
                  have h2 : To s.data.toList (i + sg (s.data.toList.drop i)) (ts ++ [tkV s.data.toList i (i + sg (s.data.toList.drop i))]) A := hst
                  rw [tkV, if_pos h0] at h2
                  exact h2
                have hmid : (s.data.toList.drop i).take (sg (s.data.toList.drop i)) = mid s.data.toList i (i + sg (s.data.toList.drop i)) := by
                  unfold mid; rw [Nat.add_sub_cancel_left]
                rw [hmid] at CS
                have hml : (mid s.data.toList i (i + sg (s.data.toList.drop i))).length = sg (s.data.toList.drop i) := by rw [← hmid, List.length_take, List.length_drop, size_len]; omega
                generalize sg (s.data.toList.drop i) = g at *
                generalize mid s.data.toList i (i + g) = y at *
                have HT := Lib.hid hst2
                have gx : (((st y).toList == []) : Bool) = false := by
                  rw [st_toList, beq_eq_false_iff_ne]
                  intro e; rw [e] at hml; simp at hml; omega
                have gx2 : (((st y).toList != []) : Bool) = true := by rw [bne, gx]; rfl
                have HSY := Lib.hid (show (st y).size = g by rw [st_size, hml])
                obtain ⟨z, hz⟩ : ∃ z, st y = z := ⟨_, rfl⟩
                rw [hz] at gx gx2 CS HSY
                have HZ := Lib.hid hz
                have hzs1 : z.size ≤ g := by have := HSY.out; omega
                have hzs2 : g ≤ z.size := by have := HSY.out; omega
                clear hst hst2 hto hgd hmid hml hbeg hz
                go_upto_region 18 with (first | (go_at_call 16; (with_reducible refine (BN.out _).mono ?_); rintro e w' ⟨rfl, rfl⟩) | (go_at_call 17; (with_reducible refine (CS.out _).mono ?_); rintro e w2 ⟨rfl, hF2⟩; have HF2 := Lib.hid (HF.out.trans hF2); have HROW2 := Lib.hid (HROW.out.fr hF2 (fun _ _ => id)); clear hF2))
                have HSZ := Lib.hid HF2.out.size
                have HF5 := Lib.hid (HF2.out.alloc (.cells #[.int .i64 2, .string z, .int .i64 i] 40))
                have HROW5 := Lib.hid (HROW2.out.fr ((Fr.refl (fun _ => False) w2).alloc (.cells #[.int .i64 2, .string z, .int .i64 i] 40)) (fun _ _ => id))
                go_wp2_with (at_builtin; refine wpList_append_own _ rfl _ _ 36 rfl W.heap.size 40 i0 (.agg #[.int .i64 0, .string .empty, .int .i64 0]) 3 32 Try.underlying36 hi hz0 hz1 hz2 rfl (by decide) _ _ _ rfl HROW5.out ⟨_, 0, none⟩ 1 1 [.int .i64 2, .string z, .int .i64 i] rfl rfl (tok_new _ _ _ _) (by intro u hu; simp at hu; rcases hu with rfl | rfl | rfl <;> rfl) (by unfold maxLen; omega) (by omega) (by have := HSZ.out; simp; omega) ?_; intro v' w6 hown' hgrow _; have HROW6 := Lib.hid (Row.more (t := ⟨2, y, i⟩) (show w6.ownsRow W.heap.size 40 3 v' (ts.length + 1) (tkC ts ++ [.int .i64 2, .string (st y), .int .i64 i]) by rw [HZ.out]; exact hown')); have HF6 := Lib.hid (row_grown' HF5.out (fun k hk => (row_blk HROW5.out hk).1) hgrow); clear hown' hgrow)
                go_roundw
                case rel => exact ⟨i + g, ts ++ [⟨2, y, i⟩], by rw [HSY.out]; go_num, HROW6.out, HF6.out, by omega, HT.out, by rw [List.length_append]; simp; omega⟩
                case measure => simp [intOf]; omega
              · have hlt := fun m => tkR_lt (l := s.data.toList) (i := i) (j := m) hll hbeg
                unfold tkR at hst hlt
                rw [if_neg h0] at hst hlt
                have HTKV := Lib.hid (fun j => (show tkV s.data.toList i j = ⟨wkind s.data.toList i j, mid s.data.toList i j, i⟩ by rw [tkV, if_neg h0]))
                have hz0' : sg (s.data.toList.drop i) = 0 := by omega
                rw [hz0', List.take_zero] at CS
                have gx : (((st []).toList == []) : Bool) = true := by rw [st_toList]; rfl
                have gx2 : (((st []).toList != []) : Bool) = false := by rw [bne, gx]; rfl
                have CW := Lib.hid (fun w => (show Calls Try.prog 18 #[.string (s.extract i s.size), .int .i64 i] w (endPost w i (wordL s.data.toList s.data.toList.length i)) from
                  rword_any w s.data.toList (s.extract i s.size) i s.data.toList.length (by rw [extract_drop, st_data]) (by simp <;> omega) (by omega) (by simp <;> omega)))
                generalize st [] = x0 at *
                generalize wordL s.data.toList s.data.toList.length i = r at *
                clear hto hgd hbeg h0 hz0'
                cases r with
                | more =>
                  have HST := Lib.hid (show A = .err s.data.toList.length 23 from hst)
                  rw [size_len] at HST
                  have CW := Lib.hid (fun w => (show Calls Try.prog 18 #[.string (s.extract i s.size), .int .i64 i] w (fun e w' => e = .returned (.agg #[.int .i64 (0 : Nat), .bool true, .bool false, .int .i64 (0 : Nat)]) ∧ Fr (fun _ => False) w w') from CW.out w))
                  clear hst hlt HTKV
                  go_wp2_with (first | (go_at_call 16; (with_reducible refine (BN.out _).mono ?_); rintro e w' ⟨rfl, rfl⟩) | (go_at_call 17; (with_reducible refine (CS.out _).mono ?_); rintro e w2 ⟨rfl, hF2⟩; have HF2 := Lib.hid (HF.out.trans hF2); clear hF2) | (go_at_call 18; (with_reducible refine (CW.out _).mono ?_); rintro e w3 ⟨rfl, hF3⟩; have HF3 := Lib.hid (HF2.out.trans hF3); clear hF3))
                  go_ret3
                  rw [HST.out]
                  exact ⟨_, rfl, Row.none _ _, HF3.out.alloc _⟩
                | deep z =>
                  have HST := Lib.hid (show A = .err z 17 from hst)
                  have CW := Lib.hid (fun w => (show Calls Try.prog 18 #[.string (s.extract i s.size), .int .i64 i] w (fun e w' => e = .returned (.agg #[.int .i64 (0 : Nat), .bool false, .bool true, .int .i64 (z : Nat)]) ∧ Fr (fun _ => False) w w') from CW.out w))
                  clear hst hlt HTKV
                  go_wp2_with (first | (go_at_call 16; (with_reducible refine (BN.out _).mono ?_); rintro e w' ⟨rfl, rfl⟩) | (go_at_call 17; (with_reducible refine (CS.out _).mono ?_); rintro e w2 ⟨rfl, hF2⟩; have HF2 := Lib.hid (HF.out.trans hF2); clear hF2) | (go_at_call 18; (with_reducible refine (CW.out _).mono ?_); rintro e w3 ⟨rfl, hF3⟩; have HF3 := Lib.hid (HF2.out.trans hF3); clear hF3))
                  go_quiet (fail)
                  go_wp2
                  go_ret3
                  rw [HST.out]
                  exact ⟨_, rfl, Row.none _ _, (HF3.out.alloc _).drewN _⟩
                | ok j =>
                  obtain ⟨hl1, hl2⟩ := hlt j rfl
                  rw [size_len] at hl2
                  obtain ⟨t, ht⟩ : ∃ t, j = i + t := ⟨j - i, by omega⟩
                  subst ht
                  have HST := Lib.hid (show To s.data.toList (i + t) (ts ++ [tkV s.data.toList i (i + t)]) A from hst)
                  have CW := Lib.hid (fun w => (show Calls Try.prog 18 #[.string (s.extract i s.size), .int .i64 i] w (fun e w' => e = .returned (.agg #[.int .i64 (t : Nat), .bool false, .bool false, .int .i64 (0 : Nat)]) ∧ Fr (fun _ => False) w w') from by
                    refine (CW.out w).mono ?_
                    rintro e w' ⟨rfl, h⟩
                    exact ⟨by rw [show enN i (.ok (i + t)) = t from Nat.add_sub_cancel_left _ _] <;> rfl, h⟩))
                  have hkind : ∀ kd : Int, wkind s.data.toList i (i + t) = kd → tkV s.data.toList i (i + t) = ⟨kd, mid s.data.toList i (i + t), i⟩ := fun kd h => by rw [HTKV.out, h]
                  have HKIND := Lib.hid hkind
                  have hgd := getD_at his
                  have hnx : ∀ c : UInt8, t = 1 → ((s.data.toList.drop (i + t)).head? = some c ↔ ∃ h : i + 1 < s.size, s[i + 1] = c) := by
                    intro c ht
                    subst ht
                    by_cases h : i + 1 < s.size
                    · rw [at_byte h]; simp [h]
                    · rw [List.drop_eq_nil_of_le (by rw [size_len]; omega)]; simp [h]
                  clear hst hlt HTKV hkind
                  by_cases ht1 : t = 1
                  · subst ht1
                    have CW := Lib.hid (fun w => (show Calls Try.prog 18 #[.string (s.extract i s.size), .int .i64 i] w (fun e w' => e = .returned (.agg #[.int .i64 1, .bool false, .bool false, .int .i64 0]) ∧ Fr (fun _ => False) w w') from CW.out w))
                    by_cases hdg : isDig s[i] = true
                    · have hd : 48 ≤ s[i].toNat ∧ s[i].toNat ≤ 57 := by simpa [isDig] using hdg
                      have gA1 : decide (48 ≤ s[i].toNat) = true := decide_eq_true hd.1
                      have gA2 : decide (s[i].toNat ≤ 57) = true := decide_eq_true hd.2
                      have gA3 : decide ((48 : Int) ≤ (s[i].toNat : Int)) = true := decide_eq_true (by omega)
                      have gA4 : decide ((s[i].toNat : Int) ≤ 57) = true := decide_eq_true (by omega)
                      by_cases hn2 : i + 1 < s.size
                      · by_cases h60 : s[i + 1] = 60
                        · have gk : (((s[i + 1].toNat : Int) == 60) : Bool) = true := u8_true s[i + 1] 60 h60
                          have hk3 : wkind s.data.toList i (i + 1) = 3 := by
                            unfold wkind
                            rw [if_pos ⟨by omega, by rw [hgd]; exact hdg, .inl ((hnx 60 rfl).2 ⟨hn2, h60⟩)⟩]
                          have HK := Lib.hid (HKIND.out 3 hk3)
                          clear h60 hk3 hnx hdg hd hgd HKIND
                          go_upto_region 21 with (first | (go_at_call 16; (with_reducible refine (BN.out _).mono ?_); rintro e w' ⟨rfl, rfl⟩) | (go_at_call 17; (with_reducible refine (CS.out _).mono ?_); rintro e w2 ⟨rfl, hF2⟩; have HF2 := Lib.hid (HF.out.trans hF2); have HROW2 := Lib.hid (HROW.out.fr hF2 (fun _ _ => id)); clear hF2) | (go_at_call 18; (with_reducible refine (CW.out _).mono ?_); rintro e w3 ⟨rfl, hF3⟩; have HF3 := Lib.hid (HF2.out.trans hF3); have HROW3 := Lib.hid (HROW2.out.fr hF3 (fun _ _ => id)); clear hF3))
                          have HNE := Lib.hid (fun k hk => (row_blk HROW3.out (k := k) hk).2)
                          have HE := Lib.hid (show EKP (w3.alloc (.cells #[.int .i64 1, .bool false, .bool false, .int .i64 0] 51)) w3.heap.size 1 false false 0 from heap_alloc_new w3 _)
                          have HF4 := Lib.hid (HF3.out.alloc (.cells #[.int .i64 1, .bool false, .bool false, .int .i64 0] 51))
                          have HROW4 := Lib.hid (HROW3.out.fr ((Fr.refl (fun _ => False) w3).alloc (.cells #[.int .i64 1, .bool false, .bool false, .int .i64 0] 51)) (fun _ _ => id))
                          have HTU := Lib.hid (show w3.heap.size < (w3.alloc (.cells #[.int .i64 1, .bool false, .bool false, .int .i64 0] 51)).heap.size by simp)
                          generalize w3.alloc (.cells #[.int .i64 1, .bool false, .bool false, .int .i64 0] 51) = w4 at *
                          generalize w3.heap.size = T at *
                          obtain ⟨k0, k1, k2, k3, kf0, kf1, kf2, kf3⟩ := HE.out.cells
                          go_upto_region 29 with fail
                          rw [mid_extract s i (i + 1)]
                          have HKT := Lib.hid (show TKP (w4.alloc (.cells #[.int .i64 1, .string (st (mid s.data.toList i (i + 1))), .int .i64 i] 40)) w4.heap.size 1 (mid s.data.toList i (i + 1)) i from heap_alloc_new w4 _)
                          have HE5 := Lib.hid (HE.out.fr ((Fr.refl (fun _ => False) w4).alloc (.cells #[.int .i64 1, .string (st (mid s.data.toList i (i + 1))), .int .i64 i] 40)) id)
                          have HF5 := Lib.hid (HF4.out.alloc (.cells #[.int .i64 1, .string (st (mid s.data.toList i (i + 1))), .int .i64 i] 40))
                          have HROW5 := Lib.hid (HROW4.out.fr ((Fr.refl (fun _ => False) w4).alloc (.cells #[.int .i64 1, .string (st (mid s.data.toList i (i + 1))), .int .i64 i] 40)) (fun _ _ => id))
                          have HWU := Lib.hid (Nat.le_trans HF4.out.size (Nat.le_refl w4.heap.size))
                          generalize w4.alloc (.cells #[.int .i64 1, .string (st (mid s.data.toList i (i + 1))), .int .i64 i] 40) = w5 at *
                          generalize w4.heap.size = U at *
                          clear k0 k1 k2 k3 kf0 kf1 kf2 kf3
                          obtain ⟨u0, u1, u2, uf0, uf1, uf2⟩ := HKT.out.cells
                          obtain ⟨k0, k1, k2, k3, kf0, kf1, kf2, kf3⟩ := HE5.out.cells
                          go_upto_region 31 with fail
                          have HKT := Lib.hid (HKT.out.setKind 3)
                          have HE5 := Lib.hid (HE5.out.fr (Fr.one w5 U 0 (.int .i64 3)) (fun e => by have := HTU.out; omega))
                          have HROW5 := Lib.hid (row_fr' HROW5.out (Fr.one w5 U 0 (.int .i64 3)) (fun k hk e => by have := HNE.out k hk; have := HTU.out; omega))
                          have HF5 := Lib.hid (HF5.out.setCell (p := ⟨U, 0, none⟩) (.inr HWU.out) (.int .i64 3))
                          clear u0 u1 u2 uf0 uf1 uf2 k0 k1 k2 k3 kf0 kf1 kf2 kf3
                          generalize w5.setCell ⟨U, 0, none⟩ (.int .i64 3) = w5 at *
                          obtain ⟨u0, u1, u2, uf0, uf1, uf2⟩ := HKT.out.cells
                          obtain ⟨k0, k1, k2, k3, kf0, kf1, kf2, kf3⟩ := HE5.out.cells
                          have HSZ := Lib.hid HF5.out.size
                          have HF6 := Lib.hid (HF5.out.alloc (.cells #[.int .i64 3, .string (st (mid s.data.toList i (i + 1))), .int .i64 i] 40))
                          have HE6 := Lib.hid (HE5.out.fr ((Fr.refl (fun _ => False) w5).alloc (.cells #[.int .i64 3, .string (st (mid s.data.toList i (i + 1))), .int .i64 i] 40)) id)
                          have HROW6 := Lib.hid (HROW5.out.fr ((Fr.refl (fun _ => False) w5).alloc (.cells #[.int .i64 3, .string (st (mid s.data.toList i (i + 1))), .int .i64 i] 40)) (fun _ _ => id))
                          go_wp2_with (at_builtin; refine wpList_append_own _ rfl _ _ 36 rfl W.heap.size 40 i0 (.agg #[.int .i64 0, .string .empty, .int .i64 0]) 3 32 Try.underlying36 hi hz0 hz1 hz2 rfl (by decide) _ _ _ rfl HROW6.out ⟨_, 0, none⟩ 1 1 [.int .i64 3, .string (st (mid s.data.toList i (i + 1))), .int .i64 i] rfl rfl (tok_new _ _ _ _) (by intro u hu; simp at hu; rcases hu with rfl | rfl | rfl <;> rfl) (by unfold maxLen; omega) (by omega) (by have := HSZ.out; simp; omega) ?_; intro v' w7 hown' hgrow _; have HROW7 := Lib.hid (Row.more (t := ⟨3, mid s.data.toList i (i + 1), i⟩) hown'); have HF7 := Lib.hid (row_grown' HF6.out (fun k hk => (row_blk HROW6.out hk).1) hgrow); have HE7 := Lib.hid (HE6.out.fr (grown_fr hgrow) (fun e => by have := HNE.out _ e; omega)); obtain ⟨k0, k1, k2, k3, kf0, kf1, kf2, kf3⟩ := HE7.out.cells; clear hown' hgrow)
                          go_roundw
                          case rel => exact ⟨i + 1, ts ++ [tkV s.data.toList i (i + 1)], by go_num, by rw [HK.out]; exact HROW7.out, HF7.out, by omega, HST.out, by rw [List.length_append]; simp; omega⟩
                          case measure => simp [intOf]; omega
                        · have gk : (((s[i + 1].toNat : Int) == 60) : Bool) = false := u8_false s[i + 1] 60 h60
                          by_cases h62 : s[i + 1] = 62
                          · have gl : (((s[i + 1].toNat : Int) == 62) : Bool) = true := u8_true s[i + 1] 62 h62
                            have hk3 : wkind s.data.toList i (i + 1) = 3 := by
                              unfold wkind
                              rw [if_pos ⟨by omega, by rw [hgd]; exact hdg, .inr ((hnx 62 rfl).2 ⟨hn2, h62⟩)⟩]
                            have HK := Lib.hid (HKIND.out 3 hk3)
                            clear h60 h62 hk3 hnx hdg hd hgd HKIND
                            go_upto_region 21 with (first | (go_at_call 16; (with_reducible refine (BN.out _).mono ?_); rintro e w' ⟨rfl, rfl⟩) | (go_at_call 17; (with_reducible refine (CS.out _).mono ?_); rintro e w2 ⟨rfl, hF2⟩; have HF2 := Lib.hid (HF.out.trans hF2); have HROW2 := Lib.hid (HROW.out.fr hF2 (fun _ _ => id)); clear hF2) | (go_at_call 18; (with_reducible refine (CW.out _).mono ?_); rintro e w3 ⟨rfl, hF3⟩; have HF3 := Lib.hid (HF2.out.trans hF3); have HROW3 := Lib.hid (HROW2.out.fr hF3 (fun _ _ => id)); clear hF3))
                            have HNE := Lib.hid (fun k hk => (row_blk HROW3.out (k := k) hk).2)
                            have HE := Lib.hid (show EKP (w3.alloc (.cells #[.int .i64 1, .bool false, .bool false, .int .i64 0] 51)) w3.heap.size 1 false false 0 from heap_alloc_new w3 _)
                            have HF4 := Lib.hid (HF3.out.alloc (.cells #[.int .i64 1, .bool false, .bool false, .int .i64 0] 51))
                            have HROW4 := Lib.hid (HROW3.out.fr ((Fr.refl (fun _ => False) w3).alloc (.cells #[.int .i64 1, .bool false, .bool false, .int .i64 0] 51)) (fun _ _ => id))
                            have HTU := Lib.hid (show w3.heap.size < (w3.alloc (.cells #[.int .i64 1, .bool false, .bool false, .int .i64 0] 51)).heap.size by simp)
                            generalize w3.alloc (.cells #[.int .i64 1, .bool false, .bool false, .int .i64 0] 51) = w4 at *
                            generalize w3.heap.size = T at *
                            obtain ⟨k0, k1, k2, k3, kf0, kf1, kf2, kf3⟩ := HE.out.cells
                            go_upto_region 29 with fail
                            rw [mid_extract s i (i + 1)]
                            have HKT := Lib.hid (show TKP (w4.alloc (.cells #[.int .i64 1, .string (st (mid s.data.toList i (i + 1))), .int .i64 i] 40)) w4.heap.size 1 (mid s.data.toList i (i + 1)) i from heap_alloc_new w4 _)
                            have HE5 := Lib.hid (HE.out.fr ((Fr.refl (fun _ => False) w4).alloc (.cells #[.int .i64 1, .string (st (mid s.data.toList i (i + 1))), .int .i64 i] 40)) id)
                            have HF5 := Lib.hid (HF4.out.alloc (.cells #[.int .i64 1, .string (st (mid s.data.toList i (i + 1))), .int .i64 i] 40))
                            have HROW5 := Lib.hid (HROW4.out.fr ((Fr.refl (fun _ => False) w4).alloc (.cells #[.int .i64 1, .string (st (mid s.data.toList i (i + 1))), .int .i64 i] 40)) (fun _ _ => id))
                            have HWU := Lib.hid (Nat.le_trans HF4.out.size (Nat.le_refl w4.heap.size))
                            generalize w4.alloc (.cells #[.int .i64 1, .string (st (mid s.data.toList i (i + 1))), .int .i64 i] 40) = w5 at *
                            generalize w4.heap.size = U at *
                            clear k0 k1 k2 k3 kf0 kf1 kf2 kf3
                            obtain ⟨u0, u1, u2, uf0, uf1, uf2⟩ := HKT.out.cells
                            obtain ⟨k0, k1, k2, k3, kf0, kf1, kf2, kf3⟩ := HE5.out.cells
                            go_upto_region 31 with fail
                            have HKT := Lib.hid (HKT.out.setKind 3)
                            have HE5 := Lib.hid (HE5.out.fr (Fr.one w5 U 0 (.int .i64 3)) (fun e => by have := HTU.out; omega))
                            have HROW5 := Lib.hid (row_fr' HROW5.out (Fr.one w5 U 0 (.int .i64 3)) (fun k hk e => by have := HNE.out k hk; have := HTU.out; omega))
                            have HF5 := Lib.hid (HF5.out.setCell (p := ⟨U, 0, none⟩) (.inr HWU.out) (.int .i64 3))
                            clear u0 u1 u2 uf0 uf1 uf2 k0 k1 k2 k3 kf0 kf1 kf2 kf3
                            generalize w5.setCell ⟨U, 0, none⟩ (.int .i64 3) = w5 at *
                            obtain ⟨u0, u1, u2, uf0, uf1, uf2⟩ := HKT.out.cells
                            obtain ⟨k0, k1, k2, k3, kf0, kf1, kf2, kf3⟩ := HE5.out.cells
                            have HSZ := Lib.hid HF5.out.size
                            have HF6 := Lib.hid (HF5.out.alloc (.cells #[.int .i64 3, .string (st (mid s.data.toList i (i + 1))), .int .i64 i] 40))
                            have HE6 := Lib.hid (HE5.out.fr ((Fr.refl (fun _ => False) w5).alloc (.cells #[.int .i64 3, .string (st (mid s.data.toList i (i + 1))), .int .i64 i] 40)) id)
                            have HROW6 := Lib.hid (HROW5.out.fr ((Fr.refl (fun _ => False) w5).alloc (.cells #[.int .i64 3, .string (st (mid s.data.toList i (i + 1))), .int .i64 i] 40)) (fun _ _ => id))
                            go_wp2_with (at_builtin; refine wpList_append_own _ rfl _ _ 36 rfl W.heap.size 40 i0 (.agg #[.int .i64 0, .string .empty, .int .i64 0]) 3 32 Try.underlying36 hi hz0 hz1 hz2 rfl (by decide) _ _ _ rfl HROW6.out ⟨_, 0, none⟩ 1 1 [.int .i64 3, .string (st (mid s.data.toList i (i + 1))), .int .i64 i] rfl rfl (tok_new _ _ _ _) (by intro u hu; simp at hu; rcases hu with rfl | rfl | rfl <;> rfl) (by unfold maxLen; omega) (by omega) (by have := HSZ.out; simp; omega) ?_; intro v' w7 hown' hgrow _; have HROW7 := Lib.hid (Row.more (t := ⟨3, mid s.data.toList i (i + 1), i⟩) hown'); have HF7 := Lib.hid (row_grown' HF6.out (fun k hk => (row_blk HROW6.out hk).1) hgrow); have HE7 := Lib.hid (HE6.out.fr (grown_fr hgrow) (fun e => by have := HNE.out _ e; omega)); obtain ⟨k0, k1, k2, k3, kf0, kf1, kf2, kf3⟩ := HE7.out.cells; clear hown' hgrow)
                            go_roundw
                            case rel => exact ⟨i + 1, ts ++ [tkV s.data.toList i (i + 1)], by go_num, by rw [HK.out]; exact HROW7.out, HF7.out, by omega, HST.out, by rw [List.length_append]; simp; omega⟩
                            case measure => simp [intOf]; omega
                          · have gl : (((s[i + 1].toNat : Int) == 62) : Bool) = false := u8_false s[i + 1] 62 h62
                            have hk3 : wkind s.data.toList i (i + 1) = 1 := by
                              unfold wkind
                              rw [if_neg]
                              rintro ⟨_, _, h | h⟩
                              · obtain ⟨_, h⟩ := (hnx 60 rfl).1 h; exact h60 h
                              · obtain ⟨_, h⟩ := (hnx 62 rfl).1 h; exact h62 h
                            have HK := Lib.hid (HKIND.out 1 hk3)
                            clear h60 h62 hk3 hnx hdg hd hgd HKIND
                            go_upto_region 21 with (first | (go_at_call 16; (with_reducible refine (BN.out _).mono ?_); rintro e w' ⟨rfl, rfl⟩) | (go_at_call 17; (with_reducible refine (CS.out _).mono ?_); rintro e w2 ⟨rfl, hF2⟩; have HF2 := Lib.hid (HF.out.trans hF2); have HROW2 := Lib.hid (HROW.out.fr hF2 (fun _ _ => id)); clear hF2) | (go_at_call 18; (with_reducible refine (CW.out _).mono ?_); rintro e w3 ⟨rfl, hF3⟩; have HF3 := Lib.hid (HF2.out.trans hF3); have HROW3 := Lib.hid (HROW2.out.fr hF3 (fun _ _ => id)); clear hF3))
                            have HNE := Lib.hid (fun k hk => (row_blk HROW3.out (k := k) hk).2)
                            have HE := Lib.hid (show EKP (w3.alloc (.cells #[.int .i64 1, .bool false, .bool false, .int .i64 0] 51)) w3.heap.size 1 false false 0 from heap_alloc_new w3 _)
                            have HF4 := Lib.hid (HF3.out.alloc (.cells #[.int .i64 1, .bool false, .bool false, .int .i64 0] 51))
                            have HROW4 := Lib.hid (HROW3.out.fr ((Fr.refl (fun _ => False) w3).alloc (.cells #[.int .i64 1, .bool false, .bool false, .int .i64 0] 51)) (fun _ _ => id))
                            have HTU := Lib.hid (show w3.heap.size < (w3.alloc (.cells #[.int .i64 1, .bool false, .bool false, .int .i64 0] 51)).heap.size by simp)
                            generalize w3.alloc (.cells #[.int .i64 1, .bool false, .bool false, .int .i64 0] 51) = w4 at *
                            generalize w3.heap.size = T at *
                            obtain ⟨k0, k1, k2, k3, kf0, kf1, kf2, kf3⟩ := HE.out.cells
                            go_upto_region 29 with fail
                            rw [mid_extract s i (i + 1)]
                            have HKT := Lib.hid (show TKP (w4.alloc (.cells #[.int .i64 1, .string (st (mid s.data.toList i (i + 1))), .int .i64 i] 40)) w4.heap.size 1 (mid s.data.toList i (i + 1)) i from heap_alloc_new w4 _)
                            have HE5 := Lib.hid (HE.out.fr ((Fr.refl (fun _ => False) w4).alloc (.cells #[.int .i64 1, .string (st (mid s.data.toList i (i + 1))), .int .i64 i] 40)) id)
                            have HF5 := Lib.hid (HF4.out.alloc (.cells #[.int .i64 1, .string (st (mid s.data.toList i (i + 1))), .int .i64 i] 40))
                            have HROW5 := Lib.hid (HROW4.out.fr ((Fr.refl (fun _ => False) w4).alloc (.cells #[.int .i64 1, .string (st (mid s.data.toList i (i + 1))), .int .i64 i] 40)) (fun _ _ => id))
                            have HWU := Lib.hid (Nat.le_trans HF4.out.size (Nat.le_refl w4.heap.size))
                            generalize w4.alloc (.cells #[.int .i64 1, .string (st (mid s.data.toList i (i + 1))), .int .i64 i] 40) = w5 at *
                            generalize w4.heap.size = U at *
                            clear k0 k1 k2 k3 kf0 kf1 kf2 kf3
                            obtain ⟨u0, u1, u2, uf0, uf1, uf2⟩ := HKT.out.cells
                            obtain ⟨k0, k1, k2, k3, kf0, kf1, kf2, kf3⟩ := HE5.out.cells
                            
                            have HSZ := Lib.hid HF5.out.size
                            have HF6 := Lib.hid (HF5.out.alloc (.cells #[.int .i64 1, .string (st (mid s.data.toList i (i + 1))), .int .i64 i] 40))
                            have HE6 := Lib.hid (HE5.out.fr ((Fr.refl (fun _ => False) w5).alloc (.cells #[.int .i64 1, .string (st (mid s.data.toList i (i + 1))), .int .i64 i] 40)) id)
                            have HROW6 := Lib.hid (HROW5.out.fr ((Fr.refl (fun _ => False) w5).alloc (.cells #[.int .i64 1, .string (st (mid s.data.toList i (i + 1))), .int .i64 i] 40)) (fun _ _ => id))
                            go_wp2_with (at_builtin; refine wpList_append_own _ rfl _ _ 36 rfl W.heap.size 40 i0 (.agg #[.int .i64 0, .string .empty, .int .i64 0]) 3 32 Try.underlying36 hi hz0 hz1 hz2 rfl (by decide) _ _ _ rfl HROW6.out ⟨_, 0, none⟩ 1 1 [.int .i64 1, .string (st (mid s.data.toList i (i + 1))), .int .i64 i] rfl rfl (tok_new _ _ _ _) (by intro u hu; simp at hu; rcases hu with rfl | rfl | rfl <;> rfl) (by unfold maxLen; omega) (by omega) (by have := HSZ.out; simp; omega) ?_; intro v' w7 hown' hgrow _; have HROW7 := Lib.hid (Row.more (t := ⟨1, mid s.data.toList i (i + 1), i⟩) hown'); have HF7 := Lib.hid (row_grown' HF6.out (fun k hk => (row_blk HROW6.out hk).1) hgrow); have HE7 := Lib.hid (HE6.out.fr (grown_fr hgrow) (fun e => by have := HNE.out _ e; omega)); obtain ⟨k0, k1, k2, k3, kf0, kf1, kf2, kf3⟩ := HE7.out.cells; clear hown' hgrow)
                            go_roundw
                            case rel => exact ⟨i + 1, ts ++ [tkV s.data.toList i (i + 1)], by go_num, by rw [HK.out]; exact HROW7.out, HF7.out, by omega, HST.out, by rw [List.length_append]; simp; omega⟩
                            case measure => simp [intOf]; omega
                      · have hk3 : wkind s.data.toList i (i + 1) = 1 := by
                          unfold wkind
                          rw [if_neg]
                          rintro ⟨_, _, h | h⟩
                          · obtain ⟨h, _⟩ := (hnx 60 rfl).1 h; exact hn2 h
                          · obtain ⟨h, _⟩ := (hnx 62 rfl).1 h; exact hn2 h
                        have HK := Lib.hid (HKIND.out 1 hk3)
                        clear hk3 hnx hdg hd hgd HKIND
                        go_upto_region 21 with (first | (go_at_call 16; (with_reducible refine (BN.out _).mono ?_); rintro e w' ⟨rfl, rfl⟩) | (go_at_call 17; (with_reducible refine (CS.out _).mono ?_); rintro e w2 ⟨rfl, hF2⟩; have HF2 := Lib.hid (HF.out.trans hF2); have HROW2 := Lib.hid (HROW.out.fr hF2 (fun _ _ => id)); clear hF2) | (go_at_call 18; (with_reducible refine (CW.out _).mono ?_); rintro e w3 ⟨rfl, hF3⟩; have HF3 := Lib.hid (HF2.out.trans hF3); have HROW3 := Lib.hid (HROW2.out.fr hF3 (fun _ _ => id)); clear hF3))
                        have HNE := Lib.hid (fun k hk => (row_blk HROW3.out (k := k) hk).2)
                        have HE := Lib.hid (show EKP (w3.alloc (.cells #[.int .i64 1, .bool false, .bool false, .int .i64 0] 51)) w3.heap.size 1 false false 0 from heap_alloc_new w3 _)
                        have HF4 := Lib.hid (HF3.out.alloc (.cells #[.int .i64 1, .bool false, .bool false, .int .i64 0] 51))
                        have HROW4 := Lib.hid (HROW3.out.fr ((Fr.refl (fun _ => False) w3).alloc (.cells #[.int .i64 1, .bool false, .bool false, .int .i64 0] 51)) (fun _ _ => id))
                        have HTU := Lib.hid (show w3.heap.size < (w3.alloc (.cells #[.int .i64 1, .bool false, .bool false, .int .i64 0] 51)).heap.size by simp)
                        generalize w3.alloc (.cells #[.int .i64 1, .bool false, .bool false, .int .i64 0] 51) = w4 at *
                        generalize w3.heap.size = T at *
                        obtain ⟨k0, k1, k2, k3, kf0, kf1, kf2, kf3⟩ := HE.out.cells
                        go_upto_region 29 with fail
                        rw [mid_extract s i (i + 1)]
                        have HKT := Lib.hid (show TKP (w4.alloc (.cells #[.int .i64 1, .string (st (mid s.data.toList i (i + 1))), .int .i64 i] 40)) w4.heap.size 1 (mid s.data.toList i (i + 1)) i from heap_alloc_new w4 _)
                        have HE5 := Lib.hid (HE.out.fr ((Fr.refl (fun _ => False) w4).alloc (.cells #[.int .i64 1, .string (st (mid s.data.toList i (i + 1))), .int .i64 i] 40)) id)
                        have HF5 := Lib.hid (HF4.out.alloc (.cells #[.int .i64 1, .string (st (mid s.data.toList i (i + 1))), .int .i64 i] 40))
                        have HROW5 := Lib.hid (HROW4.out.fr ((Fr.refl (fun _ => False) w4).alloc (.cells #[.int .i64 1, .string (st (mid s.data.toList i (i + 1))), .int .i64 i] 40)) (fun _ _ => id))
                        have HWU := Lib.hid (Nat.le_trans HF4.out.size (Nat.le_refl w4.heap.size))
                        generalize w4.alloc (.cells #[.int .i64 1, .string (st (mid s.data.toList i (i + 1))), .int .i64 i] 40) = w5 at *
                        generalize w4.heap.size = U at *
                        clear k0 k1 k2 k3 kf0 kf1 kf2 kf3
                        obtain ⟨u0, u1, u2, uf0, uf1, uf2⟩ := HKT.out.cells
                        obtain ⟨k0, k1, k2, k3, kf0, kf1, kf2, kf3⟩ := HE5.out.cells
                        
                        have HSZ := Lib.hid HF5.out.size
                        have HF6 := Lib.hid (HF5.out.alloc (.cells #[.int .i64 1, .string (st (mid s.data.toList i (i + 1))), .int .i64 i] 40))
                        have HE6 := Lib.hid (HE5.out.fr ((Fr.refl (fun _ => False) w5).alloc (.cells #[.int .i64 1, .string (st (mid s.data.toList i (i + 1))), .int .i64 i] 40)) id)
                        have HROW6 := Lib.hid (HROW5.out.fr ((Fr.refl (fun _ => False) w5).alloc (.cells #[.int .i64 1, .string (st (mid s.data.toList i (i + 1))), .int .i64 i] 40)) (fun _ _ => id))
                        go_wp2_with (at_builtin; refine wpList_append_own _ rfl _ _ 36 rfl W.heap.size 40 i0 (.agg #[.int .i64 0, .string .empty, .int .i64 0]) 3 32 Try.underlying36 hi hz0 hz1 hz2 rfl (by decide) _ _ _ rfl HROW6.out ⟨_, 0, none⟩ 1 1 [.int .i64 1, .string (st (mid s.data.toList i (i + 1))), .int .i64 i] rfl rfl (tok_new _ _ _ _) (by intro u hu; simp at hu; rcases hu with rfl | rfl | rfl <;> rfl) (by unfold maxLen; omega) (by omega) (by have := HSZ.out; simp; omega) ?_; intro v' w7 hown' hgrow _; have HROW7 := Lib.hid (Row.more (t := ⟨1, mid s.data.toList i (i + 1), i⟩) hown'); have HF7 := Lib.hid (row_grown' HF6.out (fun k hk => (row_blk HROW6.out hk).1) hgrow); have HE7 := Lib.hid (HE6.out.fr (grown_fr hgrow) (fun e => by have := HNE.out _ e; omega)); obtain ⟨k0, k1, k2, k3, kf0, kf1, kf2, kf3⟩ := HE7.out.cells; clear hown' hgrow)
                        go_roundw
                        case rel => exact ⟨i + 1, ts ++ [tkV s.data.toList i (i + 1)], by go_num, by rw [HK.out]; exact HROW7.out, HF7.out, by omega, HST.out, by rw [List.length_append]; simp; omega⟩
                        case measure => simp [intOf]; omega
                    · have hk3 : wkind s.data.toList i (i + 1) = 1 := by
                        unfold wkind
                        rw [if_neg]
                        rintro ⟨_, h, _⟩
                        rw [hgd] at h
                        exact hdg h
                      have HK := Lib.hid (HKIND.out 1 hk3)
                      have hd : s[i].toNat < 48 ∨ (48 ≤ s[i].toNat ∧ 57 < s[i].toNat) := by
                        have h : ¬ (48 ≤ s[i].toNat ∧ s[i].toNat ≤ 57) := fun h => hdg (by simpa [isDig] using h)
                        omega
                      clear hk3 hnx hdg hgd HKIND
                      rcases hd with hd | ⟨hd, hd2⟩
                      · have gA1 : decide (48 ≤ s[i].toNat) = false := decide_eq_false (by omega)
                        have gA3 : decide ((48 : Int) ≤ (s[i].toNat : Int)) = false := decide_eq_false (by omega)
                        by_cases hn2 : i + 1 < s.size
                        · skip
                          go_upto_region 21 with (first | (go_at_call 16; (with_reducible refine (BN.out _).mono ?_); rintro e w' ⟨rfl, rfl⟩) | (go_at_call 17; (with_reducible refine (CS.out _).mono ?_); rintro e w2 ⟨rfl, hF2⟩; have HF2 := Lib.hid (HF.out.trans hF2); have HROW2 := Lib.hid (HROW.out.fr hF2 (fun _ _ => id)); clear hF2) | (go_at_call 18; (with_reducible refine (CW.out _).mono ?_); rintro e w3 ⟨rfl, hF3⟩; have HF3 := Lib.hid (HF2.out.trans hF3); have HROW3 := Lib.hid (HROW2.out.fr hF3 (fun _ _ => id)); clear hF3))
                          have HNE := Lib.hid (fun k hk => (row_blk HROW3.out (k := k) hk).2)
                          have HE := Lib.hid (show EKP (w3.alloc (.cells #[.int .i64 1, .bool false, .bool false, .int .i64 0] 51)) w3.heap.size 1 false false 0 from heap_alloc_new w3 _)
                          have HF4 := Lib.hid (HF3.out.alloc (.cells #[.int .i64 1, .bool false, .bool false, .int .i64 0] 51))
                          have HROW4 := Lib.hid (HROW3.out.fr ((Fr.refl (fun _ => False) w3).alloc (.cells #[.int .i64 1, .bool false, .bool false, .int .i64 0] 51)) (fun _ _ => id))
                          have HTU := Lib.hid (show w3.heap.size < (w3.alloc (.cells #[.int .i64 1, .bool false, .bool false, .int .i64 0] 51)).heap.size by simp)
                          generalize w3.alloc (.cells #[.int .i64 1, .bool false, .bool false, .int .i64 0] 51) = w4 at *
                          generalize w3.heap.size = T at *
                          obtain ⟨k0, k1, k2, k3, kf0, kf1, kf2, kf3⟩ := HE.out.cells
                          go_upto_region 29 with fail
                          rw [mid_extract s i (i + 1)]
                          have HKT := Lib.hid (show TKP (w4.alloc (.cells #[.int .i64 1, .string (st (mid s.data.toList i (i + 1))), .int .i64 i] 40)) w4.heap.size 1 (mid s.data.toList i (i + 1)) i from heap_alloc_new w4 _)
                          have HE5 := Lib.hid (HE.out.fr ((Fr.refl (fun _ => False) w4).alloc (.cells #[.int .i64 1, .string (st (mid s.data.toList i (i + 1))), .int .i64 i] 40)) id)
                          have HF5 := Lib.hid (HF4.out.alloc (.cells #[.int .i64 1, .string (st (mid s.data.toList i (i + 1))), .int .i64 i] 40))
                          have HROW5 := Lib.hid (HROW4.out.fr ((Fr.refl (fun _ => False) w4).alloc (.cells #[.int .i64 1, .string (st (mid s.data.toList i (i + 1))), .int .i64 i] 40)) (fun _ _ => id))
                          have HWU := Lib.hid (Nat.le_trans HF4.out.size (Nat.le_refl w4.heap.size))
                          generalize w4.alloc (.cells #[.int .i64 1, .string (st (mid s.data.toList i (i + 1))), .int .i64 i] 40) = w5 at *
                          generalize w4.heap.size = U at *
                          clear k0 k1 k2 k3 kf0 kf1 kf2 kf3
                          obtain ⟨u0, u1, u2, uf0, uf1, uf2⟩ := HKT.out.cells
                          obtain ⟨k0, k1, k2, k3, kf0, kf1, kf2, kf3⟩ := HE5.out.cells
                          
                          have HSZ := Lib.hid HF5.out.size
                          have HF6 := Lib.hid (HF5.out.alloc (.cells #[.int .i64 1, .string (st (mid s.data.toList i (i + 1))), .int .i64 i] 40))
                          have HE6 := Lib.hid (HE5.out.fr ((Fr.refl (fun _ => False) w5).alloc (.cells #[.int .i64 1, .string (st (mid s.data.toList i (i + 1))), .int .i64 i] 40)) id)
                          have HROW6 := Lib.hid (HROW5.out.fr ((Fr.refl (fun _ => False) w5).alloc (.cells #[.int .i64 1, .string (st (mid s.data.toList i (i + 1))), .int .i64 i] 40)) (fun _ _ => id))
                          go_wp2_with (at_builtin; refine wpList_append_own _ rfl _ _ 36 rfl W.heap.size 40 i0 (.agg #[.int .i64 0, .string .empty, .int .i64 0]) 3 32 Try.underlying36 hi hz0 hz1 hz2 rfl (by decide) _ _ _ rfl HROW6.out ⟨_, 0, none⟩ 1 1 [.int .i64 1, .string (st (mid s.data.toList i (i + 1))), .int .i64 i] rfl rfl (tok_new _ _ _ _) (by intro u hu; simp at hu; rcases hu with rfl | rfl | rfl <;> rfl) (by unfold maxLen; omega) (by omega) (by have := HSZ.out; simp; omega) ?_; intro v' w7 hown' hgrow _; have HROW7 := Lib.hid (Row.more (t := ⟨1, mid s.data.toList i (i + 1), i⟩) hown'); have HF7 := Lib.hid (row_grown' HF6.out (fun k hk => (row_blk HROW6.out hk).1) hgrow); have HE7 := Lib.hid (HE6.out.fr (grown_fr hgrow) (fun e => by have := HNE.out _ e; omega)); obtain ⟨k0, k1, k2, k3, kf0, kf1, kf2, kf3⟩ := HE7.out.cells; clear hown' hgrow)
                          go_roundw
                          case rel => exact ⟨i + 1, ts ++ [tkV s.data.toList i (i + 1)], by go_num, by rw [HK.out]; exact HROW7.out, HF7.out, by omega, HST.out, by rw [List.length_append]; simp; omega⟩
                          case measure => simp [intOf]; omega
                        · skip
                          go_upto_region 21 with (first | (go_at_call 16; (with_reducible refine (BN.out _).mono ?_); rintro e w' ⟨rfl, rfl⟩) | (go_at_call 17; (with_reducible refine (CS.out _).mono ?_); rintro e w2 ⟨rfl, hF2⟩; have HF2 := Lib.hid (HF.out.trans hF2); have HROW2 := Lib.hid (HROW.out.fr hF2 (fun _ _ => id)); clear hF2) | (go_at_call 18; (with_reducible refine (CW.out _).mono ?_); rintro e w3 ⟨rfl, hF3⟩; have HF3 := Lib.hid (HF2.out.trans hF3); have HROW3 := Lib.hid (HROW2.out.fr hF3 (fun _ _ => id)); clear hF3))
                          have HNE := Lib.hid (fun k hk => (row_blk HROW3.out (k := k) hk).2)
                          have HE := Lib.hid (show EKP (w3.alloc (.cells #[.int .i64 1, .bool false, .bool false, .int .i64 0] 51)) w3.heap.size 1 false false 0 from heap_alloc_new w3 _)
                          have HF4 := Lib.hid (HF3.out.alloc (.cells #[.int .i64 1, .bool false, .bool false, .int .i64 0] 51))
                          have HROW4 := Lib.hid (HROW3.out.fr ((Fr.refl (fun _ => False) w3).alloc (.cells #[.int .i64 1, .bool false, .bool false, .int .i64 0] 51)) (fun _ _ => id))
                          have HTU := Lib.hid (show w3.heap.size < (w3.alloc (.cells #[.int .i64 1, .bool false, .bool false, .int .i64 0] 51)).heap.size by simp)
                          generalize w3.alloc (.cells #[.int .i64 1, .bool false, .bool false, .int .i64 0] 51) = w4 at *
                          generalize w3.heap.size = T at *
                          obtain ⟨k0, k1, k2, k3, kf0, kf1, kf2, kf3⟩ := HE.out.cells
                          go_upto_region 29 with fail
                          rw [mid_extract s i (i + 1)]
                          have HKT := Lib.hid (show TKP (w4.alloc (.cells #[.int .i64 1, .string (st (mid s.data.toList i (i + 1))), .int .i64 i] 40)) w4.heap.size 1 (mid s.data.toList i (i + 1)) i from heap_alloc_new w4 _)
                          have HE5 := Lib.hid (HE.out.fr ((Fr.refl (fun _ => False) w4).alloc (.cells #[.int .i64 1, .string (st (mid s.data.toList i (i + 1))), .int .i64 i] 40)) id)
                          have HF5 := Lib.hid (HF4.out.alloc (.cells #[.int .i64 1, .string (st (mid s.data.toList i (i + 1))), .int .i64 i] 40))
                          have HROW5 := Lib.hid (HROW4.out.fr ((Fr.refl (fun _ => False) w4).alloc (.cells #[.int .i64 1, .string (st (mid s.data.toList i (i + 1))), .int .i64 i] 40)) (fun _ _ => id))
                          have HWU := Lib.hid (Nat.le_trans HF4.out.size (Nat.le_refl w4.heap.size))
                          generalize w4.alloc (.cells #[.int .i64 1, .string (st (mid s.data.toList i (i + 1))), .int .i64 i] 40) = w5 at *
                          generalize w4.heap.size = U at *
                          clear k0 k1 k2 k3 kf0 kf1 kf2 kf3
                          obtain ⟨u0, u1, u2, uf0, uf1, uf2⟩ := HKT.out.cells
                          obtain ⟨k0, k1, k2, k3, kf0, kf1, kf2, kf3⟩ := HE5.out.cells
                          
                          have HSZ := Lib.hid HF5.out.size
                          have HF6 := Lib.hid (HF5.out.alloc (.cells #[.int .i64 1, .string (st (mid s.data.toList i (i + 1))), .int .i64 i] 40))
                          have HE6 := Lib.hid (HE5.out.fr ((Fr.refl (fun _ => False) w5).alloc (.cells #[.int .i64 1, .string (st (mid s.data.toList i (i + 1))), .int .i64 i] 40)) id)
                          have HROW6 := Lib.hid (HROW5.out.fr ((Fr.refl (fun _ => False) w5).alloc (.cells #[.int .i64 1, .string (st (mid s.data.toList i (i + 1))), .int .i64 i] 40)) (fun _ _ => id))
                          go_wp2_with (at_builtin; refine wpList_append_own _ rfl _ _ 36 rfl W.heap.size 40 i0 (.agg #[.int .i64 0, .string .empty, .int .i64 0]) 3 32 Try.underlying36 hi hz0 hz1 hz2 rfl (by decide) _ _ _ rfl HROW6.out ⟨_, 0, none⟩ 1 1 [.int .i64 1, .string (st (mid s.data.toList i (i + 1))), .int .i64 i] rfl rfl (tok_new _ _ _ _) (by intro u hu; simp at hu; rcases hu with rfl | rfl | rfl <;> rfl) (by unfold maxLen; omega) (by omega) (by have := HSZ.out; simp; omega) ?_; intro v' w7 hown' hgrow _; have HROW7 := Lib.hid (Row.more (t := ⟨1, mid s.data.toList i (i + 1), i⟩) hown'); have HF7 := Lib.hid (row_grown' HF6.out (fun k hk => (row_blk HROW6.out hk).1) hgrow); have HE7 := Lib.hid (HE6.out.fr (grown_fr hgrow) (fun e => by have := HNE.out _ e; omega)); obtain ⟨k0, k1, k2, k3, kf0, kf1, kf2, kf3⟩ := HE7.out.cells; clear hown' hgrow)
                          go_roundw
                          case rel => exact ⟨i + 1, ts ++ [tkV s.data.toList i (i + 1)], by go_num, by rw [HK.out]; exact HROW7.out, HF7.out, by omega, HST.out, by rw [List.length_append]; simp; omega⟩
                          case measure => simp [intOf]; omega
                      · have gA1 : decide (48 ≤ s[i].toNat) = true := decide_eq_true hd
                        have gA2 : decide (s[i].toNat ≤ 57) = false := decide_eq_false (by omega)
                        have gA3 : decide ((48 : Int) ≤ (s[i].toNat : Int)) = true := decide_eq_true (by omega)
                        have gA4 : decide ((s[i].toNat : Int) ≤ 57) = false := decide_eq_false (by omega)
                        by_cases hn2 : i + 1 < s.size
                        · skip
                          go_upto_region 21 with (first | (go_at_call 16; (with_reducible refine (BN.out _).mono ?_); rintro e w' ⟨rfl, rfl⟩) | (go_at_call 17; (with_reducible refine (CS.out _).mono ?_); rintro e w2 ⟨rfl, hF2⟩; have HF2 := Lib.hid (HF.out.trans hF2); have HROW2 := Lib.hid (HROW.out.fr hF2 (fun _ _ => id)); clear hF2) | (go_at_call 18; (with_reducible refine (CW.out _).mono ?_); rintro e w3 ⟨rfl, hF3⟩; have HF3 := Lib.hid (HF2.out.trans hF3); have HROW3 := Lib.hid (HROW2.out.fr hF3 (fun _ _ => id)); clear hF3))
                          have HNE := Lib.hid (fun k hk => (row_blk HROW3.out (k := k) hk).2)
                          have HE := Lib.hid (show EKP (w3.alloc (.cells #[.int .i64 1, .bool false, .bool false, .int .i64 0] 51)) w3.heap.size 1 false false 0 from heap_alloc_new w3 _)
                          have HF4 := Lib.hid (HF3.out.alloc (.cells #[.int .i64 1, .bool false, .bool false, .int .i64 0] 51))
                          have HROW4 := Lib.hid (HROW3.out.fr ((Fr.refl (fun _ => False) w3).alloc (.cells #[.int .i64 1, .bool false, .bool false, .int .i64 0] 51)) (fun _ _ => id))
                          have HTU := Lib.hid (show w3.heap.size < (w3.alloc (.cells #[.int .i64 1, .bool false, .bool false, .int .i64 0] 51)).heap.size by simp)
                          generalize w3.alloc (.cells #[.int .i64 1, .bool false, .bool false, .int .i64 0] 51) = w4 at *
                          generalize w3.heap.size = T at *
                          obtain ⟨k0, k1, k2, k3, kf0, kf1, kf2, kf3⟩ := HE.out.cells
                          go_upto_region 29 with fail
                          rw [mid_extract s i (i + 1)]
                          have HKT := Lib.hid (show TKP (w4.alloc (.cells #[.int .i64 1, .string (st (mid s.data.toList i (i + 1))), .int .i64 i] 40)) w4.heap.size 1 (mid s.data.toList i (i + 1)) i from heap_alloc_new w4 _)
                          have HE5 := Lib.hid (HE.out.fr ((Fr.refl (fun _ => False) w4).alloc (.cells #[.int .i64 1, .string (st (mid s.data.toList i (i + 1))), .int .i64 i] 40)) id)
                          have HF5 := Lib.hid (HF4.out.alloc (.cells #[.int .i64 1, .string (st (mid s.data.toList i (i + 1))), .int .i64 i] 40))
                          have HROW5 := Lib.hid (HROW4.out.fr ((Fr.refl (fun _ => False) w4).alloc (.cells #[.int .i64 1, .string (st (mid s.data.toList i (i + 1))), .int .i64 i] 40)) (fun _ _ => id))
                          have HWU := Lib.hid (Nat.le_trans HF4.out.size (Nat.le_refl w4.heap.size))
                          generalize w4.alloc (.cells #[.int .i64 1, .string (st (mid s.data.toList i (i + 1))), .int .i64 i] 40) = w5 at *
                          generalize w4.heap.size = U at *
                          clear k0 k1 k2 k3 kf0 kf1 kf2 kf3
                          obtain ⟨u0, u1, u2, uf0, uf1, uf2⟩ := HKT.out.cells
                          obtain ⟨k0, k1, k2, k3, kf0, kf1, kf2, kf3⟩ := HE5.out.cells
                          
                          have HSZ := Lib.hid HF5.out.size
                          have HF6 := Lib.hid (HF5.out.alloc (.cells #[.int .i64 1, .string (st (mid s.data.toList i (i + 1))), .int .i64 i] 40))
                          have HE6 := Lib.hid (HE5.out.fr ((Fr.refl (fun _ => False) w5).alloc (.cells #[.int .i64 1, .string (st (mid s.data.toList i (i + 1))), .int .i64 i] 40)) id)
                          have HROW6 := Lib.hid (HROW5.out.fr ((Fr.refl (fun _ => False) w5).alloc (.cells #[.int .i64 1, .string (st (mid s.data.toList i (i + 1))), .int .i64 i] 40)) (fun _ _ => id))
                          go_wp2_with (at_builtin; refine wpList_append_own _ rfl _ _ 36 rfl W.heap.size 40 i0 (.agg #[.int .i64 0, .string .empty, .int .i64 0]) 3 32 Try.underlying36 hi hz0 hz1 hz2 rfl (by decide) _ _ _ rfl HROW6.out ⟨_, 0, none⟩ 1 1 [.int .i64 1, .string (st (mid s.data.toList i (i + 1))), .int .i64 i] rfl rfl (tok_new _ _ _ _) (by intro u hu; simp at hu; rcases hu with rfl | rfl | rfl <;> rfl) (by unfold maxLen; omega) (by omega) (by have := HSZ.out; simp; omega) ?_; intro v' w7 hown' hgrow _; have HROW7 := Lib.hid (Row.more (t := ⟨1, mid s.data.toList i (i + 1), i⟩) hown'); have HF7 := Lib.hid (row_grown' HF6.out (fun k hk => (row_blk HROW6.out hk).1) hgrow); have HE7 := Lib.hid (HE6.out.fr (grown_fr hgrow) (fun e => by have := HNE.out _ e; omega)); obtain ⟨k0, k1, k2, k3, kf0, kf1, kf2, kf3⟩ := HE7.out.cells; clear hown' hgrow)
                          go_roundw
                          case rel => exact ⟨i + 1, ts ++ [tkV s.data.toList i (i + 1)], by go_num, by rw [HK.out]; exact HROW7.out, HF7.out, by omega, HST.out, by rw [List.length_append]; simp; omega⟩
                          case measure => simp [intOf]; omega
                        · skip
                          go_upto_region 21 with (first | (go_at_call 16; (with_reducible refine (BN.out _).mono ?_); rintro e w' ⟨rfl, rfl⟩) | (go_at_call 17; (with_reducible refine (CS.out _).mono ?_); rintro e w2 ⟨rfl, hF2⟩; have HF2 := Lib.hid (HF.out.trans hF2); have HROW2 := Lib.hid (HROW.out.fr hF2 (fun _ _ => id)); clear hF2) | (go_at_call 18; (with_reducible refine (CW.out _).mono ?_); rintro e w3 ⟨rfl, hF3⟩; have HF3 := Lib.hid (HF2.out.trans hF3); have HROW3 := Lib.hid (HROW2.out.fr hF3 (fun _ _ => id)); clear hF3))
                          have HNE := Lib.hid (fun k hk => (row_blk HROW3.out (k := k) hk).2)
                          have HE := Lib.hid (show EKP (w3.alloc (.cells #[.int .i64 1, .bool false, .bool false, .int .i64 0] 51)) w3.heap.size 1 false false 0 from heap_alloc_new w3 _)
                          have HF4 := Lib.hid (HF3.out.alloc (.cells #[.int .i64 1, .bool false, .bool false, .int .i64 0] 51))
                          have HROW4 := Lib.hid (HROW3.out.fr ((Fr.refl (fun _ => False) w3).alloc (.cells #[.int .i64 1, .bool false, .bool false, .int .i64 0] 51)) (fun _ _ => id))
                          have HTU := Lib.hid (show w3.heap.size < (w3.alloc (.cells #[.int .i64 1, .bool false, .bool false, .int .i64 0] 51)).heap.size by simp)
                          generalize w3.alloc (.cells #[.int .i64 1, .bool false, .bool false, .int .i64 0] 51) = w4 at *
                          generalize w3.heap.size = T at *
                          obtain ⟨k0, k1, k2, k3, kf0, kf1, kf2, kf3⟩ := HE.out.cells
                          go_upto_region 29 with fail
                          rw [mid_extract s i (i + 1)]
                          have HKT := Lib.hid (show TKP (w4.alloc (.cells #[.int .i64 1, .string (st (mid s.data.toList i (i + 1))), .int .i64 i] 40)) w4.heap.size 1 (mid s.data.toList i (i + 1)) i from heap_alloc_new w4 _)
                          have HE5 := Lib.hid (HE.out.fr ((Fr.refl (fun _ => False) w4).alloc (.cells #[.int .i64 1, .string (st (mid s.data.toList i (i + 1))), .int .i64 i] 40)) id)
                          have HF5 := Lib.hid (HF4.out.alloc (.cells #[.int .i64 1, .string (st (mid s.data.toList i (i + 1))), .int .i64 i] 40))
                          have HROW5 := Lib.hid (HROW4.out.fr ((Fr.refl (fun _ => False) w4).alloc (.cells #[.int .i64 1, .string (st (mid s.data.toList i (i + 1))), .int .i64 i] 40)) (fun _ _ => id))
                          have HWU := Lib.hid (Nat.le_trans HF4.out.size (Nat.le_refl w4.heap.size))
                          generalize w4.alloc (.cells #[.int .i64 1, .string (st (mid s.data.toList i (i + 1))), .int .i64 i] 40) = w5 at *
                          generalize w4.heap.size = U at *
                          clear k0 k1 k2 k3 kf0 kf1 kf2 kf3
                          obtain ⟨u0, u1, u2, uf0, uf1, uf2⟩ := HKT.out.cells
                          obtain ⟨k0, k1, k2, k3, kf0, kf1, kf2, kf3⟩ := HE5.out.cells
                          
                          have HSZ := Lib.hid HF5.out.size
                          have HF6 := Lib.hid (HF5.out.alloc (.cells #[.int .i64 1, .string (st (mid s.data.toList i (i + 1))), .int .i64 i] 40))
                          have HE6 := Lib.hid (HE5.out.fr ((Fr.refl (fun _ => False) w5).alloc (.cells #[.int .i64 1, .string (st (mid s.data.toList i (i + 1))), .int .i64 i] 40)) id)
                          have HROW6 := Lib.hid (HROW5.out.fr ((Fr.refl (fun _ => False) w5).alloc (.cells #[.int .i64 1, .string (st (mid s.data.toList i (i + 1))), .int .i64 i] 40)) (fun _ _ => id))
                          go_wp2_with (at_builtin; refine wpList_append_own _ rfl _ _ 36 rfl W.heap.size 40 i0 (.agg #[.int .i64 0, .string .empty, .int .i64 0]) 3 32 Try.underlying36 hi hz0 hz1 hz2 rfl (by decide) _ _ _ rfl HROW6.out ⟨_, 0, none⟩ 1 1 [.int .i64 1, .string (st (mid s.data.toList i (i + 1))), .int .i64 i] rfl rfl (tok_new _ _ _ _) (by intro u hu; simp at hu; rcases hu with rfl | rfl | rfl <;> rfl) (by unfold maxLen; omega) (by omega) (by have := HSZ.out; simp; omega) ?_; intro v' w7 hown' hgrow _; have HROW7 := Lib.hid (Row.more (t := ⟨1, mid s.data.toList i (i + 1), i⟩) hown'); have HF7 := Lib.hid (row_grown' HF6.out (fun k hk => (row_blk HROW6.out hk).1) hgrow); have HE7 := Lib.hid (HE6.out.fr (grown_fr hgrow) (fun e => by have := HNE.out _ e; omega)); obtain ⟨k0, k1, k2, k3, kf0, kf1, kf2, kf3⟩ := HE7.out.cells; clear hown' hgrow)
                          go_roundw
                          case rel => exact ⟨i + 1, ts ++ [tkV s.data.toList i (i + 1)], by go_num, by rw [HK.out]; exact HROW7.out, HF7.out, by omega, HST.out, by rw [List.length_append]; simp; omega⟩
                          case measure => simp [intOf]; omega
                  · have gN : ((((t : Nat) : Int) == 1) : Bool) = false := by rw [beq_eq_false_iff_ne]; omega
                    have hk3 : wkind s.data.toList i (i + t) = 1 := by
                      unfold wkind
                      rw [if_neg]
                      rintro ⟨h, _⟩
                      omega
                    have HK := Lib.hid (HKIND.out 1 hk3)
                    clear hk3 hnx hgd HKIND
                    have hn2 : i + 1 < s.size := by omega
                    go_upto_region 21 with (first | (go_at_call 16; (with_reducible refine (BN.out _).mono ?_); rintro e w' ⟨rfl, rfl⟩) | (go_at_call 17; (with_reducible refine (CS.out _).mono ?_); rintro e w2 ⟨rfl, hF2⟩; have HF2 := Lib.hid (HF.out.trans hF2); have HROW2 := Lib.hid (HROW.out.fr hF2 (fun _ _ => id)); clear hF2) | (go_at_call 18; (with_reducible refine (CW.out _).mono ?_); rintro e w3 ⟨rfl, hF3⟩; have HF3 := Lib.hid (HF2.out.trans hF3); have HROW3 := Lib.hid (HROW2.out.fr hF3 (fun _ _ => id)); clear hF3))
                    have HNE := Lib.hid (fun k hk => (row_blk HROW3.out (k := k) hk).2)
                    have HE := Lib.hid (show EKP (w3.alloc (.cells #[.int .i64 (t : Nat), .bool false, .bool false, .int .i64 0] 51)) w3.heap.size t false false 0 from heap_alloc_new w3 _)
                    have HF4 := Lib.hid (HF3.out.alloc (.cells #[.int .i64 (t : Nat), .bool false, .bool false, .int .i64 0] 51))
                    have HROW4 := Lib.hid (HROW3.out.fr ((Fr.refl (fun _ => False) w3).alloc (.cells #[.int .i64 (t : Nat), .bool false, .bool false, .int .i64 0] 51)) (fun _ _ => id))
                    have HTU := Lib.hid (show w3.heap.size < (w3.alloc (.cells #[.int .i64 (t : Nat), .bool false, .bool false, .int .i64 0] 51)).heap.size by simp)
                    generalize w3.alloc (.cells #[.int .i64 (t : Nat), .bool false, .bool false, .int .i64 0] 51) = w4 at *
                    generalize w3.heap.size = T at *
                    obtain ⟨k0, k1, k2, k3, kf0, kf1, kf2, kf3⟩ := HE.out.cells
                    go_upto_region 29 with fail
                    rw [mid_extract s i (i + t)]
                    have HKT := Lib.hid (show TKP (w4.alloc (.cells #[.int .i64 1, .string (st (mid s.data.toList i (i + t))), .int .i64 i] 40)) w4.heap.size 1 (mid s.data.toList i (i + t)) i from heap_alloc_new w4 _)
                    have HE5 := Lib.hid (HE.out.fr ((Fr.refl (fun _ => False) w4).alloc (.cells #[.int .i64 1, .string (st (mid s.data.toList i (i + t))), .int .i64 i] 40)) id)
                    have HF5 := Lib.hid (HF4.out.alloc (.cells #[.int .i64 1, .string (st (mid s.data.toList i (i + t))), .int .i64 i] 40))
                    have HROW5 := Lib.hid (HROW4.out.fr ((Fr.refl (fun _ => False) w4).alloc (.cells #[.int .i64 1, .string (st (mid s.data.toList i (i + t))), .int .i64 i] 40)) (fun _ _ => id))
                    have HWU := Lib.hid (Nat.le_trans HF4.out.size (Nat.le_refl w4.heap.size))
                    generalize w4.alloc (.cells #[.int .i64 1, .string (st (mid s.data.toList i (i + t))), .int .i64 i] 40) = w5 at *
                    generalize w4.heap.size = U at *
                    clear k0 k1 k2 k3 kf0 kf1 kf2 kf3
                    obtain ⟨u0, u1, u2, uf0, uf1, uf2⟩ := HKT.out.cells
                    obtain ⟨k0, k1, k2, k3, kf0, kf1, kf2, kf3⟩ := HE5.out.cells
                    
                    have HSZ := Lib.hid HF5.out.size
                    have HF6 := Lib.hid (HF5.out.alloc (.cells #[.int .i64 1, .string (st (mid s.data.toList i (i + t))), .int .i64 i] 40))
                    have HE6 := Lib.hid (HE5.out.fr ((Fr.refl (fun _ => False) w5).alloc (.cells #[.int .i64 1, .string (st (mid s.data.toList i (i + t))), .int .i64 i] 40)) id)
                    have HROW6 := Lib.hid (HROW5.out.fr ((Fr.refl (fun _ => False) w5).alloc (.cells #[.int .i64 1, .string (st (mid s.data.toList i (i + t))), .int .i64 i] 40)) (fun _ _ => id))
                    go_wp2_with (at_builtin; refine wpList_append_own _ rfl _ _ 36 rfl W.heap.size 40 i0 (.agg #[.int .i64 0, .string .empty, .int .i64 0]) 3 32 Try.underlying36 hi hz0 hz1 hz2 rfl (by decide) _ _ _ rfl HROW6.out ⟨_, 0, none⟩ 1 1 [.int .i64 1, .string (st (mid s.data.toList i (i + t))), .int .i64 i] rfl rfl (tok_new _ _ _ _) (by intro u hu; simp at hu; rcases hu with rfl | rfl | rfl <;> rfl) (by unfold maxLen; omega) (by omega) (by have := HSZ.out; simp; omega) ?_; intro v' w7 hown' hgrow _; have HROW7 := Lib.hid (Row.more (t := ⟨1, mid s.data.toList i (i + t), i⟩) hown'); have HF7 := Lib.hid (row_grown' HF6.out (fun k hk => (row_blk HROW6.out hk).1) hgrow); have HE7 := Lib.hid (HE6.out.fr (grown_fr hgrow) (fun e => by have := HNE.out _ e; omega)); obtain ⟨k0, k1, k2, k3, kf0, kf1, kf2, kf3⟩ := HE7.out.cells; clear hown' hgrow)
                    go_roundw
                    case rel => exact ⟨i + t, ts ++ [tkV s.data.toList i (i + t)], by go_num, by rw [HK.out]; exact HROW7.out, HF7.out, by omega, HST.out, by rw [List.length_append]; simp; omega⟩
                    case measure => simp [intOf]; omega
    · obtain rfl : i = s.size := by omega
      have HV := Lib.hid (hto.ended (by rw [size_len]; omega))
      rw [size_len] at HV
      clear hto
      have HF5 := Lib.hid (HF.out.alloc (.cells #[.int .i64 4, .string ⟨#[]⟩, .int .i64 s.size] 40))
      have HROW5 := Lib.hid (HROW.out.fr ((Fr.refl (fun _ => False) wr).alloc (.cells #[.int .i64 4, .string ⟨#[]⟩, .int .i64 s.size] 40)) (fun _ _ => id))
      go_wp2_with (at_builtin; refine wpList_append_own _ rfl _ _ 36 rfl W.heap.size 40 i0 (.agg #[.int .i64 0, .string .empty, .int .i64 0]) 3 32 Try.underlying36 hi hz0 hz1 hz2 rfl (by decide) _ _ _ rfl HROW5.out ⟨_, 0, none⟩ 1 1 [.int .i64 4, .string ⟨#[]⟩, .int .i64 s.size] rfl rfl (tok_new _ _ _ _) (by intro u hu; simp at hu; rcases hu with rfl | rfl | rfl <;> rfl) (by unfold maxLen; omega) (by omega) (by have := HWS.out; simp; omega) ?_; intro v' w6 hown' hgrow _; have HROW6 := Lib.hid (Row.more (t := ⟨4, [], s.size⟩) hown'); have HF6 := Lib.hid (row_grown' HF5.out (fun k hk => (row_blk HROW5.out hk).1) hgrow); clear hown' hgrow)
      go_ret3
      rw [HV.out]
      exact ⟨v', rfl, HROW6.out, HF6.out⟩
theorem rAll_any (s : ByteArray) (hs : s.size ≤ maxLen) (W : World) :
    Calls Try.prog 11 #[.string s] W (allPost W (allA s.data.toList)) := by
  unfold allA
  by_cases h : 4096 < s.size
  · rw [if_pos (by rw [size_len]; exact h)]
    unfold maxLen at hs
    go_enter Try.func11, Try.ntmps11
    go_wp2
    go_ret3
    exact ⟨_, rfl, Row.none _ _, Fr.refl _ _⟩
  · rw [if_neg (by rw [size_len]; exact h)]
    exact rAll_loop s (by omega) W
end Go.Proofs.Ytoahgblgchmclaa
