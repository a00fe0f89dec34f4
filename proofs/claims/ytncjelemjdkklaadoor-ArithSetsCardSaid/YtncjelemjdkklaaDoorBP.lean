/- The walk of ArithSets. -/
import Derived.Test.YtncjelemjdkklaaDoorBO
import Derived.Test.YtncjelemjdkklaaDoorBE
import Derived.Test.YtncjelemjdkklaaDoorBM
namespace Go.Proofs.YtncjelemjdkklaaDoor
open Go.RowKit
set_option linter.unusedVariables false
set_option linter.unusedSimpArgs false
theorem set_cat (a b : Bs) : (⟨#[40, 121, 32, 61, 32]⟩ : ByteArray) ++ st a ++ (⟨#[41, 32, 43, 32, 40, 120, 32, 61, 32, 121, 41, 32, 43, 32, 40, 121, 32, 43, 61, 32]⟩ : ByteArray) ++ st b ++ (⟨#[41, 32, 43, 32, 40, 120, 32, 60, 60, 61, 32, 49, 41]⟩ : ByteArray) = st (sText a b) := by
  have : ((⟨#[40, 121, 32, 61, 32]⟩ : ByteArray) ++ st a ++ (⟨#[41, 32, 43, 32, 40, 120, 32, 61, 32, 121, 41, 32, 43, 32, 40, 121, 32, 43, 61, 32]⟩ : ByteArray) ++ st b ++ (⟨#[41, 32, 43, 32, 40, 120, 32, 60, 60, 61, 32, 49, 41]⟩ : ByteArray)).data.toList = sText a b := by simp [st, sText, q2, q3]
  rw [← this, st_of]
theorem s_len {a b : Bs} (ha : a.length ≤ 21) (hb : b.length ≤ 21) : (sText a b).length ≤ maxLen := by
  unfold sText q2 q3 maxLen
  simp only [List.length_append, List.length_cons, List.length_nil]
  omega
theorem rds_own {W W' : World} {B : Nat} {v : Value} {p q : Bs × Int} (h : W.ownsRow B 25 4 v [p, q].length (outC [p, q])) (hb : Below W.heap.size W W') : Rds W' v [p, q] := by
  have h' := ownz_fr h (Fr.of_below (S := fun _ => False) hb) (fun _ _ => id)
  rcases h'.2 with ⟨-, h0⟩ | ⟨g, cap, cur, rfl, -, -, h1, h2, -⟩
  · cases h0
  refine ⟨_, cap, rfl, h1, h2, fun i x hx => ?_⟩
  have c (j : Nat) (hj : j < 8) := h'.cellAt j (by simpa using hj)
  match i, hx with
  | 0, hx =>
    simp at hx
    subst hx
    refine ⟨g, 0, rfl, ?_, ?_, ?_, ?_⟩
    · exact c 0 (by decide)
    · exact c 1 (by decide)
    · exact c 2 (by decide)
    · exact c 3 (by decide)
  | 1, hx =>
    simp at hx
    subst hx
    refine ⟨g, 0, rfl, ?_, ?_, ?_, ?_⟩
    · exact c 4 (by decide)
    · exact c 5 (by decide)
    · exact c 6 (by decide)
    · exact c 7 (by decide)
theorem rds_two (W : World) (a c : Bs) (x y : Int) : Rds (two W a (Lib.itoa x) c (Lib.itoa y)) (.slice (some ⟨W.heap.size, 0, none⟩) 2 2) [(a, x), (c, y)] := by
  have e := heap_alloc_new W (.cells #[.string (st a), .string (st (Lib.itoa x)), .bool false, .bool false, .string (st c), .string (st (Lib.itoa y)), .bool false, .bool false] 25)
  refine ⟨_, 2, rfl, Nat.le_refl _, by unfold maxLen; omega, fun i p hp => ?_⟩
  match i, hp with
  | 0, hp =>
    simp at hp
    subst hp
    refine ⟨W.heap.size, 0, rfl, ?_, ?_, ?_, ?_⟩ <;> rw [Lib.cell_of_heap e] <;> rfl
  | 1, hp =>
    simp at hp
    subst hp
    refine ⟨W.heap.size, 0, rfl, ?_, ?_, ?_, ?_⟩ <;> rw [Lib.cell_of_heap e] <;> rfl
set_option maxRecDepth 100000 in
set_option maxHeartbeats 16000000 in
theorem walk_sets (a b : Int) (ha : I64 a) (hb : I64 b) (W : World) (henv : Env W) : Calls Tryd.prog 4 #[.int .i64 a, .int .i64 b] W fun e w' => e = .returned (.bool true) ∧ Below W.heap.size W w' := by
  have HS := Lib.hid (shown_any W henv)
  have HE := Lib.hid henv
  have HD1 := Lib.hid (fun w1 => digits_any a ha w1)
  have HD2 := Lib.hid (fun w1 => digits_any b hb w1)
  have HD3 := Lib.hid (fun w1 => digits_any (wrap64 (a + b)) (i64_wrap _) w1)
  have HD4 := Lib.hid (fun w1 => digits_any (wrap64 (a * 2)) (i64_wrap _) w1)
  have hla := itoa_len ha
  have hlb := itoa_len hb
  have hsa := st_size (Lib.itoa a)
  have hsb := st_size (Lib.itoa b)
  have z1 := bsz (⟨#[40, 121, 32, 61, 32]⟩ : ByteArray) (st (Lib.itoa a)) 5 _ rfl hsa
  have z2 := bsz _ (⟨#[41, 32, 43, 32, 40, 120, 32, 61, 32, 121, 41, 32, 43, 32, 40, 121, 32, 43, 61, 32]⟩ : ByteArray) _ 20 z1 rfl
  have z3 := bsz _ (st (Lib.itoa b)) _ _ z2 hsb
  have HV := Lib.hid (fun (w1 : World) (he : Env w1) => show Calls Tryd.prog 10 #[.string ((⟨#[40, 121, 32, 61, 32]⟩ : ByteArray) ++ st (Lib.itoa a) ++ ⟨#[41, 32, 43, 32, 40, 120, 32, 61, 32, 121, 41, 32, 43, 32, 40, 121, 32, 43, 61, 32]⟩ ++ st (Lib.itoa b) ++ ⟨#[41, 32, 43, 32, 40, 120, 32, 60, 60, 61, 32, 49, 41]⟩), .slice none 0 0] w1 (fun r w' => ∃ lo cap, r = .returned (.tuple #[.int .i64 (wrap64 (wrap64 (wrap64 (a + a) + wrap64 (a + b)) + wrap64 (a * 2))), .slice lo 2 cap, .int .i64 0]) ∧ w'.ownsRow w1.heap.size 25 4 (.slice lo 2 cap) (sOwn a b).length (outC (sOwn a b)) ∧ Below w1.heap.size w1 w' ∧ Env w') from by
    rw [set_cat]
    exact val_nil (sText (Lib.itoa a) (Lib.itoa b)) w1 (s_len hla hlb) he _ _ _ (sets_val a b ha hb))
  have HSM := Lib.hid (fun (w : World) (lo : Option Addr) (cap : Nat) (h1 : Rds (two w [121] (Lib.itoa (wrap64 (a + b))) [120] (Lib.itoa (wrap64 (a * 2)))) (.slice lo 2 cap) (sOwn a b)) =>
    show Calls Tryd.prog 11 #[.slice lo 2 cap, .slice (some ⟨w.heap.size, 0, none⟩) 2 2] (w.alloc (.cells #[.string ⟨#[121]⟩, .string (st (Lib.itoa (wrap64 (a + b)))), .bool false, .bool false, .string ⟨#[120]⟩, .string (st (Lib.itoa (wrap64 (a * 2)))), .bool false, .bool false] 25)) _ from
      same_any (sOwn a b) _ _ _ h1 (rds_two w [121] [120] _ _))
  have hcase : (a = -9223372036854775808 ∧ wrap64 (-a) = a) ∨ (-9223372036854775808 < a ∧ a < 0) ∨ (0 ≤ a ∧ a ≤ 9223372036854775807) := by
    unfold I64 at ha
    by_cases h : a = -9223372036854775808
    · exact .inl ⟨h, by rw [h]; decide +kernel⟩
    · by_cases h0 : a < 0
      · exact .inr (.inl ⟨by omega, h0⟩)
      · exact .inr (.inr ⟨by omega, ha.2⟩)
  have hcase2 : (b = -9223372036854775808 ∧ wrap64 (-b) = b) ∨ (-9223372036854775808 < b ∧ b < 0) ∨ (0 ≤ b ∧ b ≤ 9223372036854775807) := by
    unfold I64 at hb
    by_cases h : b = -9223372036854775808
    · exact .inl ⟨h, by rw [h]; decide +kernel⟩
    · by_cases h0 : b < 0
      · exact .inr (.inl ⟨by omega, h0⟩)
      · exact .inr (.inr ⟨by omega, hb.2⟩)
  have hc1 : (a < 0 ∧ wrap64 (-a) = a) ∨ (a < 0 ∧ wrap64 (-a) ≠ a) ∨ 0 ≤ a := by
    rcases hcase with ⟨h, k⟩ | ⟨h, k⟩ | h
    · exact .inl ⟨by omega, k⟩
    · exact .inr (.inl ⟨k, by rw [wrap_id ⟨by omega, by omega⟩]; omega⟩)
    · exact .inr (.inr h.1)
  have hc2 : (b < 0 ∧ wrap64 (-b) = b) ∨ (b < 0 ∧ wrap64 (-b) ≠ b) ∨ 0 ≤ b := by
    rcases hcase2 with ⟨h, k⟩ | ⟨h, k⟩ | h
    · exact .inl ⟨by omega, k⟩
    · exact .inr (.inl ⟨k, by rw [wrap_id ⟨by omega, by omega⟩]; omega⟩)
    · exact .inr (.inr h.1)
  clear hcase hcase2 henv ha hb
  have HC := Lib.hid hc1
  have HC2 := Lib.hid hc2
  clear hc1 hc2
  go_enter Tryd.func4, Tryd.ntmps4
  rcases HC.out with ⟨hn, hw⟩ | ⟨hn, hw⟩ | hn <;> rcases HC2.out with ⟨hm, hv⟩ | ⟨hm, hv⟩ | hm <;> clear HC HC2 <;>
  go_wp2_with (first
    | (go_at_call 8; (with_reducible refine HS.out.mono ?_); rintro e w1 ⟨rfl, hb1⟩; have HB1 := Lib.hid hb1; clear hb1)
    | (go_at_call 9; (with_reducible refine (HD1.out _).mono ?_); rintro e w2 ⟨rfl, hb2⟩; have HB2 := Lib.hid (bel_next HB1.out hb2); clear hb2)
    | (go_at_call 9; (with_reducible refine (HD2.out _).mono ?_); rintro e w3 ⟨rfl, hb3⟩; have HB3 := Lib.hid (bel_next HB2.out hb3); clear hb3)
    | (go_at_call 10; (with_reducible refine (HV.out _ (HE.out.bel HB3.out)).mono ?_); rintro e w4 ⟨lo4, cap4, rfl, ho4, hb4, -⟩; have HO4 := Lib.hid ho4; have HB4 := Lib.hid (bel_next HB3.out hb4); clear hb4 ho4)
    | (go_at_call 9; (with_reducible refine (HD3.out _).mono ?_); rintro e w5 ⟨rfl, hb5⟩; have HB5 := Lib.hid hb5; clear hb5)
    | (go_at_call 9; (with_reducible refine (HD4.out _).mono ?_); rintro e w6 ⟨rfl, hb6⟩; have HB6 := Lib.hid (bel_next HB5.out hb6); clear hb6)
    | (go_at_call 11; (with_reducible refine (HSM.out _ _ _ (rds_own HO4.out (bel_new HB6.out _))).mono ?_); rintro e w7 ⟨rfl, hb7⟩; have HB7 := Lib.hid (bel_next (bel_new (bel_next HB4.out HB6.out) _) hb7); clear hb7))
  all_goals first
    | (go_ret; exact ⟨rfl, HB7.out⟩)
    | (go_ret; exact ⟨rfl, bel_new (bel_next HB4.out HB6.out) _⟩)
end Go.Proofs.YtncjelemjdkklaaDoor
