/- Brackets within one another: the law's walk. -/
import Derived.Test.YtoahgblgchmclaaQE
import Derived.Test.YtoahgblgchmclaaQJ
namespace Go.Proofs.Ytoahgblgchmclaa
open Go.RowKit
set_option linter.unusedVariables false
set_option linter.unusedSimpArgs false
theorem mask63 (m : Int) : ∃ k : Nat, k ≤ 63 ∧ bits .and .i64 m 63 = (k : Int) := by
  have ho : ∀ z : Int, (BitVec.ofInt 64 z).toNat = (z % 18446744073709551616).toNat := fun z => by rw [BitVec.toNat_ofInt]; rfl
  have h : (m % 18446744073709551616).toNat &&& 63 ≤ 63 := Nat.and_le_right
  refine ⟨(m % 18446744073709551616).toNat &&& 63, h, ?_⟩
  show IntKind.i64.wrap ((BitVec.ofInt 64 m &&& BitVec.ofInt 64 (63 : Int)).toNat : Int) = _
  rw [BitVec.toNat_and, ho, ho, show ((63 : Int) % 18446744073709551616).toNat = 63 from rfl]
  rw [IntKind.wrap_i64]; omega
theorem st_app (a b : Bs) : st a ++ st b = st (a ++ b) := by
  rw [← st_of (st a ++ st b), ByteArray.data_append, Array.toList_append, st_data, st_data]
theorem deepT_len (b : Bool) (k : Nat) : (deepT b k).length ≤ 1 + 5 * k := by
  induction k with
  | zero => exact Nat.le_refl _
  | succ k ih =>
    unfold deepT
    split
    · simp only [List.length_append, List.length_cons, List.length_nil]; omega
    · simp only [List.length_append, List.length_cons, List.length_nil]; omega
theorem deep_subs (x : ByteArray) (i : Nat) (h : x = st (deepT true i)) : (⟨#[40, 32]⟩ : ByteArray) ++ x ++ ⟨#[32, 41]⟩ = st (deepT true (i + 1)) := by
  rw [h, show (⟨#[40, 32]⟩ : ByteArray) = st [40, 32] from rfl, show (⟨#[32, 41]⟩ : ByteArray) = st [32, 41] from rfl, st_app, st_app]; rfl
theorem deep_group (x : ByteArray) (i : Nat) (h : x = st (deepT false i)) : (⟨#[123, 32]⟩ : ByteArray) ++ x ++ ⟨#[59, 32, 125]⟩ = st (deepT false (i + 1)) := by
  rw [h, show (⟨#[123, 32]⟩ : ByteArray) = st [123, 32] from rfl, show (⟨#[59, 32, 125]⟩ : ByteArray) = st [59, 32, 125] from rfl, st_app, st_app]; rfl
set_option maxRecDepth 100000 in
set_option maxHeartbeats 16000000 in
theorem deep_any (m : Int) (q : Bool) (W : World) (hm : (Lit.int .i64 m).wf) :
    Calls Try.prog 7 #[.int .i64 m, .bool q] W fun e w' => e = .returned (.bool true) ∧ Below W.heap.size W w' := by
  have HS := Lib.hid pshown_any
  obtain ⟨n, hn, hmask⟩ := mask63 m
  have hok := deep_ok q n (by omega)
  unfold okD at hok
  obtain ⟨ns, p, c, hA⟩ : ∃ ns p c, parseA (deepT q n) = (ns, p, c) := ⟨_, _, _, rfl⟩
  rw [hA] at hok
  dsimp only at hok
  have hdl := deepT_len q n
  have HL := Lib.hid (fun i => deepT_len q i)
  have HG1 := Lib.hid deep_subs
  have HG2 := Lib.hid deep_group
  have HC := Lib.hid (show ∀ (x : ByteArray), x = st (deepT q n) → ∀ w, Calls Try.prog 9 #[.string x] w fun e w' => ∃ ao cap k c0, ∃ at_ : Nat, e = .returned (.tuple #[.slice ao k cap, .int .i64 at_, .int .i64 c0]) ∧ (if n ≤ 25 then k = n + 1 ∧ c0 = 0 else k = 0 ∧ at_ = 50 ∧ c0 = 17) ∧ k ≤ 100 ∧ Fr (fun _ => False) w w' from by
    intro x hx w
    by_cases h25 : n ≤ 25
    · rw [if_pos h25] at hok
      simp only [Bool.and_eq_true, decide_eq_true_eq] at hok
      obtain ⟨h1, rfl, rfl⟩ := hok
      refine (parse_ok x (by rw [hx, st_size]; unfold maxLen; omega) ns (by rw [hx, st_data]; exact hA) (by omega) w).mono ?_
      rintro e w' ⟨g, cap, K, rfl, _, _, _, _, hF⟩
      exact ⟨_, _, _, _, _, rfl, by rw [if_pos h25]; exact ⟨h1, rfl⟩, by omega, hF⟩
    · rw [if_neg h25] at hok
      simp only [Bool.and_eq_true, decide_eq_true_eq] at hok
      obtain ⟨h1, rfl, rfl⟩ := hok
      have hz : ns = [] := List.eq_nil_of_length_eq_zero h1
      subst hz
      refine (parse_bad x (by rw [hx, st_size]; unfold maxLen; omega) _ _ (by rw [hx, st_data]; exact hA) w).mono ?_
      rintro e w' ⟨ao, cap, rfl, hF⟩
      exact ⟨_, _, _, _, _, rfl, by rw [if_neg h25]; exact ⟨rfl, rfl, rfl⟩, by omega, hF⟩)
  clear hA hok hdl
  go_enter Try.func7, Try.ntmps7
  go_upto_region 5 with (go_at_call 8; (with_reducible refine (HS.out _).mono ?_); rintro e w1 ⟨rfl, hF1⟩; have HF1 := Lib.hid hF1; clear hF1)
  go_loop [6, 7] (fun sv iv => ∃ (i : Nat) (x : ByteArray), iv = .int .i64 i ∧ sv = .string x ∧ x = st (deepT q i) ∧ i ≤ n) (fun _ iv => n - (intOf iv).toNat)
  case atStart => exact ⟨0, _, rfl, rfl, rfl, Nat.zero_le _⟩
  case round =>
    obtain ⟨i, x, rfl, rfl, hx, hi⟩ := hrel
    have hxs : x.size ≤ 500 := by rw [hx, st_size]; have := HL.out i; omega
    have HX := Lib.hid hx
    clear hx
    by_cases hlt : i < n
    · cases q with
      | true =>
        go_wp2
        go_round
        case rel => exact ⟨i + 1, _, by go_num, rfl, HG1.out _ _ HX.out, hlt⟩
        case measure => simp [intOf]; omega
      | false =>
        go_wp2
        go_round
        case rel => exact ⟨i + 1, _, by go_num, rfl, HG2.out _ _ HX.out, hlt⟩
        case measure => simp [intOf]; omega
    · obtain rfl : i = n := by omega
      have HC2 := Lib.hid (HC.out x HX.out)
      clear HC
      by_cases h25 : i ≤ 25
      · go_wp2_with (go_at_call 9; (with_reducible refine (HC2.out _).mono ?_); rintro e w2 ⟨ao, cap, k, c0, a0, rfl, hk, hk2, hF2⟩; rw [if_pos h25] at hk; obtain ⟨rfl, rfl⟩ := hk; have HF2 := Lib.hid (HF1.out.trans hF2); clear hF2)
        go_ret
        exact ⟨ret_bool (by simp; try omega), HF2.out.bel (fun _ h => h.elim) (Nat.le_refl _)⟩
      · go_wp2_with (go_at_call 9; (with_reducible refine (HC2.out _).mono ?_); rintro e w2 ⟨ao, cap, k, c0, a0, rfl, hk, hk2, hF2⟩; rw [if_neg h25] at hk; obtain ⟨rfl, rfl, rfl⟩ := hk; have HF2 := Lib.hid (HF1.out.trans hF2); clear hF2)
        go_ret
        exact ⟨ret_bool (by simp; try omega), HF2.out.bel (fun _ h => h.elim) (Nat.le_refl _)⟩
end Go.Proofs.Ytoahgblgchmclaa
