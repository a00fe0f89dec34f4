/- The law LexStands: the walk. -/
import Derived.Test.YtmkcenobghaoiaaLP
import Derived.Test.YtmkcenobghaoiaaLQ
namespace Go.Proofs.Ytmkcenobghaoiaa
open Go.RowKit
set_option linter.unusedVariables false
set_option linter.unusedSimpArgs false
theorem allL_len (l : Bs) : ∀ (n i : Nat) (out ts : List Tk), out.length ≤ 400 → allL l n i out = .ok ts → ts.length ≤ 401 := by
  intro n
  induction n with
  | zero => intro i out ts ho h; rw [allL] at h; injection h with h; rw [← h, List.length_append]; simp; omega
  | succ n ih =>
    intro i out ts ho h
    rw [allL] at h
    split at h
    · injection h with h; rw [← h, List.length_append]; simp; omega
    split at h
    · exact ih _ _ _ ho h
    split at h
    · exact ih _ _ _ ho h
    split at h
    · exact ih _ _ _ ho h
    split at h
    · cases h
    split at h
    · exact ih _ _ _ (by rw [List.length_append]; simp; omega) h
    · split at h
      · exact ih _ _ _ (by rw [List.length_append]; simp; omega) h
      · cases h
      · cases h
theorem allA_len {l : Bs} {ts : List Tk} (h : allA l = .ok ts) : ts.length ≤ 401 := by
  unfold allA at h
  split at h
  · cases h
  · exact allL_len l _ _ _ _ (by simp) h
theorem u8_ne (c d : UInt8) (h : ¬ c = d) : (((c.toNat : Int) != (d.toNat : Int)) : Bool) = true := by rw [bne, u8_false _ _ h]; rfl
theorem u8_nn (c d : UInt8) (h : c = d) : (((c.toNat : Int) != (d.toNat : Int)) : Bool) = false := by rw [bne, u8_true _ _ h]; rfl
theorem drop_next {ts : List Tk} {i : Nat} {t : Tk} {r : List Tk} (h : ts.drop i = t :: r) : ts.drop (i + 1) = r := by
  rw [← List.drop_drop, h]; rfl
theorem drop_ix {ts : List Tk} {i : Nat} (h : i < ts.length) : ts.drop i = ts[i] :: ts.drop (i + 1) := List.drop_eq_getElem_cons h
def stRel (W : World) (s : ByteArray) (B g cap : Nat) (ts : List Tk) (ev iv : Value) (wr : World) : Prop :=
  ∃ i e : Nat, iv = .int .i64 i ∧ ev = .int .i64 e ∧ Row wr B (.slice (some ⟨g, 0, none⟩) ts.length cap) ts ∧ Fr (fun _ => False) W wr ∧ i ≤ ts.length ∧ e ≤ s.size ∧ (i < ts.length → Chain s.data.toList e (ts.drop i))
theorem gap_step {s : ByteArray} {k a : Nat} (h : Gap s.data.toList k a) (hk : k < a) (ha : a ≤ s.size) : ∃ hl : k < s.size,
    (((s[k] = 32 ∨ s[k] = 9) ∧ Gap s.data.toList (k + 1) a) ∨ (∃ h2 : k + 1 < s.size, s[k] = 92 ∧ s[k + 1] = 10 ∧ k + 2 ≤ a ∧ Gap s.data.toList (k + 2) a) ∨ (s[k] = 35 ∧ Gap s.data.toList (cmt s.data.toList k) a)) := by
  have hl : k < s.size := by omega
  refine ⟨hl, ?_⟩
  cases h with
  | nil => omega
  | blank hi hb h => rw [getD_at hl] at hb; exact .inl ⟨hb, h⟩
  | nl hi hb h =>
    have hh : (s.data.toList.drop (k + 1)).head? = some 10 := hb.2
    have h2 : k + 1 < s.size := by
      refine Nat.lt_of_not_le fun hn => ?_
      rw [List.drop_eq_nil_of_le (by rw [size_len]; omega)] at hh
      simp at hh
    rw [at_byte h2] at hh
    have h92 : s[k] = 92 := by rw [← getD_at hl]; exact hb.1
    exact .inr (.inl ⟨h2, h92, by simpa using hh, h.le, h⟩)
  | cm hi hb h => rw [getD_at hl] at hb; exact .inr (.inr ⟨hb, h⟩)
def gpRel (s : ByteArray) (a : Nat) (kv : Value) : Prop := ∃ k : Nat, kv = .int .i64 k ∧ k ≤ a ∧ Gap s.data.toList k a
def cmRel (s : ByteArray) (k0 m a : Nat) (kv : Value) : Prop := ∃ k : Nat, kv = .int .i64 k ∧ k0 < k ∧ k ≤ a ∧ k ≤ m ∧ cmt s.data.toList k = m
set_option maxRecDepth 100000 in
set_option maxHeartbeats 32000000 in
theorem stands_any (s : ByteArray) (W : World) (hs : s.size ≤ maxLen) :
    Calls Try.prog 5 #[.string s] W fun e w' => e = .returned (.bool true) ∧ Below W.heap.size W w' := by
  have HS := Lib.hid shown_any
  cases hA : allA s.data.toList with
  | err k c =>
    have C := Lib.hid (fun w => (show Calls Try.prog 9 #[.string s] w fun e w' => ∃ ao cap, e = .returned (.tuple #[.slice ao 0 cap, .int .i64 k, .int .i64 c]) ∧ Fr (fun _ => False) w w' from by
      refine (pAll_any s hs w).mono ?_
      rw [hA]
      rintro e w' ⟨v, rfl, hr, hF⟩
      obtain ⟨ao, cap, rfl, _⟩ := hr.slice
      exact ⟨ao, cap, rfl, hF⟩))
    obtain ⟨hk, hc⟩ := allA_err hA
    rw [size_len] at hk
    unfold maxLen at hs
    have gc : (((c : Int) != 0) : Bool) = true := by rw [bne_iff_ne]; omega
    clear hA hc
    go_enter Try.func5, Try.ntmps5
    go_wp2_with (first
      | (go_at_call 7; (with_reducible refine (HS.out _).mono ?_); rintro e w1 ⟨rfl, hF1⟩; have HF1 := Lib.hid hF1; clear hF1)
      | (go_at_call 9; (with_reducible refine (C.out _).mono ?_); rintro e w2 ⟨ao, cap, rfl, hF2⟩; have HF2 := Lib.hid (HF1.out.trans hF2); clear hF2))
    go_ret
    exact ⟨ret_bool (by simp; try omega), HF2.out.bel (fun _ h => h.elim) (Nat.le_refl _)⟩
  | ok ts =>
    obtain ⟨hch, hlen⟩ := allA_chain hA
    rw [size_len] at hlen
    have hn := chain_ne hch
    have hn4 := allA_len hA
    have C := Lib.hid (fun w => pAll_ok s ts hs hn hA w)
    have HCH := Lib.hid hch
    clear hA hch
    unfold maxLen at hs
    go_enter Try.func5, Try.ntmps5
    go_wp2_with (first
      | (go_at_call 7; (with_reducible refine (HS.out _).mono ?_); rintro e w1 ⟨rfl, hF1⟩; have HF1 := Lib.hid hF1; clear hF1)
      | (go_at_call 9; (with_reducible refine (C.out _).mono ?_); rintro e w2 ⟨g, cap, rfl, hr, hg1, hg2, hcap, hF2⟩; have HR2 := Lib.hid hr; have HF2 := Lib.hid (HF1.out.trans hF2); clear hr hF2))
    go_loopw [7, 8, 9, 10, 11] (fun ev iv _ _ _ wr => stRel W s w1.heap.size g cap ts ev iv wr) (fun _ iv _ _ _ _ => ts.length - (intOf iv).toNat)
    case atStart => exact ⟨0, 0, rfl, rfl, HR2.out, HF2.out, Nat.zero_le _, Nat.zero_le _, fun _ => HCH.out⟩
    case round =>
      obtain ⟨i, e, rfl, rfl, hR, hF, hi, he, hc⟩ := hrel
      clear HR2 HF2 HCH hg1 hg2
      have HF := Lib.hid hF
      have HR := Lib.hid hR
      by_cases hlt : i < ts.length
      · have hch := hc hlt
        rw [drop_ix hlt] at hch
        obtain ⟨q0, q1, q2⟩ := row_cell hR i hlt
        obtain ⟨hgap, htl, hmid, hlast, hmore⟩ := chain_head hch
        clear hc hch hR hF
        generalize ts[i] = t at *
        obtain ⟨a, ha⟩ : ∃ a, t.at_ = a := ⟨_, rfl⟩
        obtain ⟨kd, hkd⟩ : ∃ k, t.kind = k := ⟨_, rfl⟩
        obtain ⟨x, hx⟩ : ∃ x, st t.text = x := ⟨_, rfl⟩
        have hxs : t.text.length = x.size := by rw [← hx, st_size]
        rw [ha, hxs] at htl hmid hmore
        rw [ha] at hgap hlast q2
        rw [hkd] at hlast hmore q0
        rw [hx] at q1
        rw [size_len] at htl hlast
        have hle := hgap.le
        have hmx : s.extract a (a + x.size) = x := by rw [mid_extract, hmid, hx]
        have hxl : t.text = [] → ((x.toList == []) : Bool) = true := fun h => by rw [← hx, h, st_toList]; rfl
        have HG := Lib.hid hgap
        have HLAST := Lib.hid (fun h => (show kd = 4 ∧ ((x.toList == []) : Bool) = true ∧ a = s.size from ⟨(hlast h).1, hxl (hlast h).2.1, (hlast h).2.2⟩))
        have HMORE := Lib.hid hmore
        have hn1 : decide (a < e) = false := by rw [decide_eq_false_iff_not]; omega
        have hn2 : decide (s.size < a) = false := by rw [decide_eq_false_iff_not]; omega
        have hd1 : decide ((a : Int) < (e : Int)) = false := by rw [decide_eq_false_iff_not]; omega
        have hd2 : decide ((s.size : Int) < (a : Int)) = false := by rw [decide_eq_false_iff_not]; omega
        have hd3 : decide ((s.size : Int) - (a : Int) < (x.size : Int)) = false := by rw [decide_eq_false_iff_not]; omega
        have gm : (((s.extract a (a + x.size)).toList == x.toList) : Bool) = true := by rw [hmx]; simp
        have hnil : ts.drop (i + 1) = [] ↔ i + 1 = ts.length := by rw [List.drop_eq_nil_iff]; omega
        have HNIL := Lib.hid hnil
        clear hgap hlast hmore hmid hmx hxl ha hkd hx hxs hnil
        go_upto_region 10 with fail
        have HT := Lib.hid (show (wr.alloc (.cells #[.int .i64 kd, .string x, .int .i64 a] 29)).heap[wr.heap.size]? = some (.cells #[.int .i64 kd, .string x, .int .i64 a] 29 (0, 0)) from heap_alloc_new wr _)
        have HR1 := Lib.hid (HR.out.fr ((Fr.refl (fun _ => False) wr).alloc (.cells #[.int .i64 kd, .string x, .int .i64 a] 29)) (fun _ _ => id))
        have HF1 := Lib.hid (HF.out.alloc (.cells #[.int .i64 kd, .string x, .int .i64 a] 29))
        generalize wr.alloc (.cells #[.int .i64 kd, .string x, .int .i64 a] 29) = w3 at *
        generalize wr.heap.size = T at *
        have t0 : w3.cell? ⟨T, 0, none⟩ = some (.int .i64 kd) := by rw [Lib.cell_of_heap HT.out]; rfl
        have t1 : w3.cell? ⟨T, 1, none⟩ = some (.string x) := by rw [Lib.cell_of_heap HT.out]; rfl
        have t2 : w3.cell? ⟨T, 2, none⟩ = some (.int .i64 a) := by rw [Lib.cell_of_heap HT.out]; rfl
        go_quiet (fail)
        go_wp2
        go_loop [10, 11] (fun kv _ => gpRel s a kv) (fun kv _ => a - (intOf kv).toNat)
        case atStart => exact ⟨e, rfl, hle, HG.out⟩
        case round =>
          obtain ⟨k, rfl, hka, hgap⟩ := hrel
          by_cases hk : k < a
          · obtain ⟨hl, hcase⟩ := gap_step hgap hk (by omega)
            clear hgap
            rcases hcase with ⟨hb, hg⟩ | ⟨h2, h92, h10, hk2, hg⟩ | ⟨h35, hg⟩
            · have HV := Lib.hid hg
              clear hg
              rcases hb with hb | hb
              · have g1 : (((s[k].toNat : Int) == 32) : Bool) = true := u8_true s[k] 32 hb
                clear hb
                go_wp2
                go_round
                case rel => exact ⟨k + 1, by go_num, hk, HV.out⟩
                case measure => simp [intOf]; omega
              · have g1 : (((s[k].toNat : Int) == 32) : Bool) = false := u8_false s[k] 32 (by rw [hb]; decide)
                have g2 : (((s[k].toNat : Int) == 9) : Bool) = true := u8_true s[k] 9 hb
                clear hb
                go_wp2
                go_round
                case rel => exact ⟨k + 1, by go_num, hk, HV.out⟩
                case measure => simp [intOf]; omega
            · have HV := Lib.hid hg
              have g1 : (((s[k].toNat : Int) == 32) : Bool) = false := u8_false s[k] 32 (by rw [h92]; decide)
              have g2 : (((s[k].toNat : Int) == 9) : Bool) = false := u8_false s[k] 9 (by rw [h92]; decide)
              have g3 : (((s[k].toNat : Int) == 92) : Bool) = true := u8_true s[k] 92 h92
              have g4 : (((s[k + 1].toNat : Int) == 10) : Bool) = true := u8_true s[k + 1] 10 h10
              clear hg h92 h10
              go_wp2
              go_round
              case rel => exact ⟨k + 2, by go_num, hk2, HV.out⟩
              case measure => simp [intOf]; omega
            · have g1 : (((s[k].toNat : Int) == 32) : Bool) = false := u8_false s[k] 32 (by rw [h35]; decide)
              have g2 : (((s[k].toNat : Int) == 9) : Bool) = false := u8_false s[k] 9 (by rw [h35]; decide)
              have g3 : (((s[k].toNat : Int) == 92) : Bool) = false := u8_false s[k] 92 (by rw [h35]; decide)
              have g4 : (((s[k].toNat : Int) == 35) : Bool) = true := u8_true s[k] 35 h35
              have g5 : (((s[k].toNat : Int) != 10) : Bool) = true := u8_ne s[k] 10 (by rw [h35]; decide)
              have hcm := cmt_at s k hl
              rw [if_neg (by rw [h35]; decide)] at hcm
              have hge := cmt_ge s.data.toList (k + 1)
              have hma := hg.le
              obtain ⟨m, hm⟩ : ∃ m, cmt s.data.toList (k + 1) = m := ⟨_, rfl⟩
              rw [hcm, hm] at hg hma
              rw [hm] at hge
              have HV := Lib.hid hg
              have HM := Lib.hid hm
              have HM0 := Lib.hid (hcm.trans hm)
              clear hg hm hcm h35
              go_wp2
              go_loop [10] (fun kv => (∃ j : Nat, kv = .int .i64 j ∧ k ≤ j ∧ j ≤ m ∧ cmt s.data.toList j = m)) (fun kv => m - (intOf kv).toNat)
              case atStart => exact ⟨k, rfl, Nat.le_refl _, by omega, HM0.out⟩
              case round =>
                obtain ⟨j, rfl, hkj, hjm, hcj⟩ := hrel
                by_cases hj : j < m
                · have hjs : j < s.size := by omega
                  rw [cmt_at s j hjs] at hcj
                  have h10 : ¬ s[j] = 10 := fun h => by rw [if_pos h] at hcj; omega
                  rw [if_neg h10] at hcj
                  have g6 : (((s[j].toNat : Int) != 10) : Bool) = true := u8_ne s[j] 10 h10
                  have HJ := Lib.hid hcj
                  clear hcj h10
                  go_wp2
                  go_round
                  case rel => exact ⟨j + 1, by go_num, by omega, hj, HJ.out⟩
                  case measure => simp [intOf]; omega
                · obtain rfl : j = m := by omega
                  by_cases hja : j < a
                  · have hjs : j < s.size := by omega
                    have h10 : s[j] = 10 := by
                      rw [cmt_at s j hjs] at hcj
                      by_cases h : s[j] = 10
                      · exact h
                      · rw [if_neg h] at hcj
                        have := cmt_ge s.data.toList (j + 1)
                        omega
                    have g6 : (((s[j].toNat : Int) != 10) : Bool) = false := u8_nn s[j] 10 h10
                    clear hcj h10
                    go_wp2
                    go_round
                    case rel => exact ⟨j, rfl, hma, HV.out⟩
                    case measure => simp [intOf]; omega
                  · obtain rfl : j = a := by omega
                    clear hcj
                    go_wp2
                    go_round
                    case rel => exact ⟨j, rfl, hma, HV.out⟩
                    case measure => simp [intOf]; omega
          · obtain rfl : k = a := by omega
            clear hgap
            by_cases hlst : i + 1 = ts.length
            · obtain ⟨h4, hx0, has⟩ := HLAST.out (HNIL.out.2 hlst)
              have gk : (((kd : Int) == 4) : Bool) = true := by rw [h4]; rfl
              have gi : ((((i : Nat) : Int) == ((ts.length : Nat) : Int) - 1) : Bool) = true := by rw [beq_iff_eq]; omega
              have gs : ((((k : Nat) : Int) != ((s.size : Nat) : Int)) : Bool) = false := by rw [bne, has]; simp
              clear h4 has
              have HLST := Lib.hid hlst
              clear hlst
              go_wp2
              go_roundw
              case rel => exact ⟨i + 1, k + x.size, by go_num, by go_num, HR1.out.fr (S := fun _ => False) ((Fr.refl _ _).drewN _) (fun _ _ => id), HF1.out.drewN _, by omega, by omega, fun h => by have := HLST.out; omega⟩
              case measure => simp [intOf]; omega
            · obtain ⟨h4, hcc⟩ := HMORE.out (fun h => hlst (HNIL.out.1 h))
              have gk : (((kd : Int) == 4) : Bool) = false := by rw [beq_eq_false_iff_ne]; exact h4
              have gi : ((((i : Nat) : Int) == ((ts.length : Nat) : Int) - 1) : Bool) = false := by rw [beq_eq_false_iff_ne]; omega
              have HCC := Lib.hid hcc
              clear h4 hcc hlst
              go_wp2
              go_roundw
              case rel => exact ⟨i + 1, k + x.size, by go_num, by go_num, HR1.out.fr (S := fun _ => False) ((Fr.refl _ _).drewN _) (fun _ _ => id), HF1.out.drewN _, by omega, by omega, fun _ => HCC.out⟩
              case measure => simp [intOf]; omega
      · obtain rfl : i = ts.length := by omega
        clear hc hR hF
        go_wp2
        go_ret
        exact ⟨rfl, HF.out.bel (fun _ h => h.elim) (Nat.le_refl _)⟩
end Go.Proofs.Ytmkcenobghaoiaa
