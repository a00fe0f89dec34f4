/- The walk of ArithBases. -/
import Derived.Test.YtncjelemjdkklaaDoorBL
import Derived.Test.YtncjelemjdkklaaDoorBE
namespace Go.Proofs.YtncjelemjdkklaaDoor
open Go.RowKit
set_option linter.unusedVariables false
set_option linter.unusedSimpArgs false
def b8Rel (W : World) (n : Nat) (iv ov : Value) (wr : World) : Prop := ∃ k : Nat, iv = .int .i64 k ∧ ov = .string (st (digs 8 c8 n k)) ∧ k ≤ 22 ∧ Below W.heap.size W wr
def b16Rel (W : World) (n : Nat) (iv ov : Value) (wr : World) : Prop := ∃ k : Nat, iv = .int .i64 k ∧ ov = .string (st (digs 16 c16 n k)) ∧ k ≤ 16 ∧ Below W.heap.size W wr
theorem and7 (q : Nat) (hq : q < 9223372036854775808) : bits .and .i64 (q : Int) 7 = ((q % 8 : Nat) : Int) := by
  rw [bits_and, ← wrap_bv, BitVec.toNat_and, show (bv 7).toNat = 2 ^ 3 - 1 from by decide +kernel, show (bv (q : Int)).toNat = q from by
    unfold bv; rw [BitVec.toNat_ofInt]; omega, Nat.and_two_pow_sub_one_eq_mod, IntKind.wrap_i64]
  omega
theorem and15 (q : Nat) (hq : q < 9223372036854775808) : bits .and .i64 (q : Int) 15 = ((q % 16 : Nat) : Int) := by
  rw [bits_and, ← wrap_bv, BitVec.toNat_and, show (bv 15).toNat = 2 ^ 4 - 1 from by decide +kernel, show (bv (q : Int)).toNat = q from by
    unfold bv; rw [BitVec.toNat_ofInt]; omega, Nat.and_two_pow_sub_one_eq_mod, IntKind.wrap_i64]
  omega
theorem shr8 (n k : Nat) : (n : Int) / 2 ^ (3 * (k : Int)).toNat = ((n / 8 ^ k : Nat) : Int) := by
  rw [show (3 * (k : Int)).toNat = 3 * k by omega, Int.pow_mul, Int.natCast_ediv, Int.natCast_pow]
  rfl
theorem shr16 (n k : Nat) : (n : Int) / 2 ^ (4 * (k : Int)).toNat = ((n / 16 ^ k : Nat) : Int) := by
  rw [show (4 * (k : Int)).toNat = 4 * k by omega, Int.pow_mul, Int.natCast_ediv, Int.natCast_pow]
  rfl
theorem dt_len (n : Nat) (hn : n < 9223372036854775808) : (Lib.decDigits n).length ≤ maxLen := by
  have h1 := (d_wd n hn).l
  unfold maxLen; omega
theorem bt_len (n : Nat) (hn : n < 9223372036854775808) : (bText (Lib.decDigits n) (oT n) (hT 120 n) (hT 88 n)).length ≤ maxLen := by
  have h1 := (d_wd n hn).l
  have h2 := (o_wd n hn).l
  have h3 := (h_wd 120 (.inl rfl) n hn).l
  have h4 := (h_wd 88 (.inr rfl) n hn).l
  generalize Lib.decDigits n = q1 at *
  generalize oT n = q2 at *
  generalize hT 120 n = q3 at *
  generalize hT 88 n = q4 at *
  unfold bText maxLen
  simp only [List.length_append, List.length_cons, List.length_nil]
  omega
theorem hex_at : ∀ d (h : d < 16), (⟨#[48, 49, 50, 51, 52, 53, 54, 55, 56, 57, 97, 98, 99, 100, 69, 70]⟩ : ByteArray)[d]'h = c16 d := by decide +kernel
theorem bsz (a b : ByteArray) (x y : Nat) (h : a.size = x) (k : b.size = y) : (a ++ b).size = x + y := by rw [ByteArray.size_append, h, k]
abbrev L1 : ByteArray := ⟨#[32, 61, 61, 32, 48]⟩
abbrev L2 : ByteArray := ⟨#[32, 38, 38, 32]⟩
abbrev L3 : ByteArray := ⟨#[32, 61, 61, 32, 48, 120]⟩
abbrev L4 : ByteArray := ⟨#[32, 38, 38, 32, 48, 88]⟩
theorem base_cat (d o h : Bs) : st d ++ L1 ++ st o ++ L2 ++ st d ++ L3 ++ st h ++ L4 ++ st h ++ L1 ++ st o = st (bText d (48 :: o) (48 :: 120 :: h) (48 :: 88 :: h)) := by
  have : (st d ++ L1 ++ st o ++ L2 ++ st d ++ L3 ++ st h ++ L4 ++ st h ++ L1 ++ st o).data.toList = bText d (48 :: o) (48 :: 120 :: h) (48 :: 88 :: h) := by simp [st, bText]
  rw [← this, st_of]
/-- the law's tail: the text laid together, and what it is worth. -/
def zs (A O H : ByteArray) (a o h : Nat) : Prop := (A ++ L1).size = a + 5 ∧ (A ++ L1 ++ O).size = a + 5 + o ∧ (A ++ L1 ++ O ++ L2).size = a + 5 + o + 4 ∧ (A ++ L1 ++ O ++ L2 ++ A).size = a + 5 + o + 4 + a ∧ (A ++ L1 ++ O ++ L2 ++ A ++ L3).size = a + 5 + o + 4 + a + 6 ∧ (A ++ L1 ++ O ++ L2 ++ A ++ L3 ++ H).size = a + 5 + o + 4 + a + 6 + h ∧ (A ++ L1 ++ O ++ L2 ++ A ++ L3 ++ H ++ L4).size = a + 5 + o + 4 + a + 6 + h + 6 ∧ (A ++ L1 ++ O ++ L2 ++ A ++ L3 ++ H ++ L4 ++ H).size = a + 5 + o + 4 + a + 6 + h + 6 + h ∧ (A ++ L1 ++ O ++ L2 ++ A ++ L3 ++ H ++ L4 ++ H ++ L1).size = a + 5 + o + 4 + a + 6 + h + 6 + h + 5
theorem zs_of {A O H : ByteArray} {a o h : Nat} (ha : A.size = a) (ho : O.size = o) (hh : H.size = h) : zs A O H a o h := by
  have e1 := bsz A L1 _ 5 ha rfl
  have e2 := bsz _ O _ _ e1 ho
  have e3 := bsz _ L2 _ 4 e2 rfl
  have e4 := bsz _ A _ _ e3 ha
  have e5 := bsz _ L3 _ 6 e4 rfl
  have e6 := bsz _ H _ _ e5 hh
  have e7 := bsz _ L4 _ 6 e6 rfl
  have e8 := bsz _ H _ _ e7 hh
  exact ⟨e1, e2, e3, e4, e5, e6, e7, e8, bsz _ L1 _ 5 e8 rfl⟩
set_option maxRecDepth 100000 in
set_option maxHeartbeats 4000000 in
theorem walk_b0 (n : Nat) (hn : (n : Int) ≤ 9223372036854775807) (W : World) (henv : Env W) : Calls Tryd.prog 7 #[.int .i64 n] W fun e w' => e = .returned (.bool true) ∧ Below W.heap.size W w' := by
  have HN := Lib.hid hn
  have HS := Lib.hid (shown_any W henv)
  have HE := Lib.hid henv
  have HD := Lib.hid (fun w1 => digits_any (n : Int) ⟨by omega, hn⟩ w1)
  clear henv
  go_enter Tryd.func7, Tryd.ntmps7
  go_wp2_with (first
    | (go_at_call 8; (with_reducible refine HS.out.mono ?_); rintro e w1 ⟨rfl, hb1⟩; have HB1 := Lib.hid hb1; clear hb1)
    | (go_at_call 9; (with_reducible refine (HD.out _).mono ?_); rintro e w2 ⟨rfl, hb2⟩; have HB2 := Lib.hid (bel_next HB1.out hb2); clear hb2))
  go_loopw [7, 5] (fun iv ov wr => b8Rel W n iv ov wr) (fun iv _ _ => 22 - (intOf iv).toNat)
  case atStart => exact ⟨0, rfl, rfl, by omega, HB2.out⟩
  case round =>
    obtain ⟨k, rfl, rfl, hk, hb⟩ := hrel
    have hst0 := st_size (digs 8 c8 n k)
    rw [digs_len] at hst0
    by_cases hk22 : k < 22
    · have hqn : n / 8 ^ k < 9223372036854775808 := Nat.lt_of_le_of_lt (Nat.div_le_self _ _) (by omega)
      have h7 : bits .and .i64 ((n : Int) / 2 ^ (3 * k)) 7 = ((n / 8 ^ k % 8 : Nat) : Int) := by
        have := shr8 n k
        rw [show (3 * (k : Int)).toNat = 3 * k by omega] at this
        rw [this, and7 _ hqn]
      have hst := st_cons (c8 (n / 8 ^ k % 8)) (digs 8 c8 n k)
      have hnx : c8 (n / 8 ^ k % 8) :: digs 8 c8 n k = digs 8 c8 n (k + 1) := rfl
      have hd8 : n / 8 ^ k % 8 < 8 := Nat.mod_lt _ (by omega)
      have hc : 48 + ((n / 8 ^ k % 8 : Nat) : Int) = ((c8 (n / 8 ^ k % 8)).toNat : Int) := dig_byte (by omega)
      have hs1 : (⟨#[c8 (n / 8 ^ k % 8)]⟩ : ByteArray).size = 1 := rfl
      clear hqn
      generalize c8 (n / 8 ^ k % 8) = c at hc hst hs1 hnx
      generalize n / 8 ^ k % 8 = d at hc hd8 h7
      have hs := conv_new c wr
      rw [← hc] at hs
      have hbn : Below W.heap.size W (wr.alloc (Obj.cells #[.int .u8 (48 + (d : Int))] 5)) := hb.alloc hb.size _
      have HST := Lib.hid (hst.trans (congrArg st hnx))
      have HC := Lib.hid hc
      clear hst hc hnx
      go_wp2
      go_roundw
      case rel => exact ⟨k + 1, by go_num, congrArg Value.string HST.out, by omega, hbn⟩
      case measure => simp [intOf]; omega
    · obtain rfl : k = 22 := by omega
      have HB3 := Lib.hid hb
      clear hb
      go_wp2
      go_loopw [8, 6] (fun iv ov wr => b16Rel W n iv ov wr) (fun iv _ _ => 16 - (intOf iv).toNat)
      case atStart => exact ⟨0, rfl, rfl, by omega, HB3.out⟩
      case round =>
        obtain ⟨k, rfl, rfl, hk, hb⟩ := hrel
        have hst1 := st_size (digs 16 c16 n k)
        rw [digs_len] at hst1
        by_cases hk16 : k < 16
        · have hqn : n / 16 ^ k < 9223372036854775808 := Nat.lt_of_le_of_lt (Nat.div_le_self _ _) (by omega)
          have h15 : bits .and .i64 ((n : Int) / 2 ^ (4 * k)) 15 = ((n / 16 ^ k % 16 : Nat) : Int) := by
            have := shr16 n k
            rw [show (4 * (k : Int)).toNat = 4 * k by omega] at this
            rw [this, and15 _ hqn]
          have hd16 : n / 16 ^ k % 16 < 16 := Nat.mod_lt _ (by omega)
          have hnx : c16 (n / 16 ^ k % 16) :: digs 16 c16 n k = digs 16 c16 n (k + 1) := rfl
          clear hqn
          generalize n / 16 ^ k % 16 = d at hd16 h15 hnx
          have hlt : d < (⟨#[48, 49, 50, 51, 52, 53, 54, 55, 56, 57, 97, 98, 99, 100, 69, 70]⟩ : ByteArray).size := hd16
          have hcd := hex_at d hd16
          have hs := conv_new ((⟨#[48, 49, 50, 51, 52, 53, 54, 55, 56, 57, 97, 98, 99, 100, 69, 70]⟩ : ByteArray)[d]'hlt) wr
          have hst := st_cons ((⟨#[48, 49, 50, 51, 52, 53, 54, 55, 56, 57, 97, 98, 99, 100, 69, 70]⟩ : ByteArray)[d]'hlt) (digs 16 c16 n k)
          have HST := Lib.hid (hst.trans (congrArg st ((congrArg (· :: digs 16 c16 n k) hcd).trans hnx)))
          have hs1 : (⟨#[(⟨#[48, 49, 50, 51, 52, 53, 54, 55, 56, 57, 97, 98, 99, 100, 69, 70]⟩ : ByteArray)[d]'hlt]⟩ : ByteArray).size = 1 := rfl
          have hbn := Lib.hid (hb.alloc hb.size (Obj.cells #[.int .u8 (((⟨#[48, 49, 50, 51, 52, 53, 54, 55, 56, 57, 97, 98, 99, 100, 69, 70]⟩ : ByteArray)[d]'hlt).toNat : Int)] 5))
          clear hst hcd hnx
          go_wp2
          go_roundw
          case rel => exact ⟨_, _, _, _, _, _, _, _, _, _, _, _, _, _, _, _, _, ⟨k + 1, by go_num, congrArg Value.string HST.out, by omega, hbn.out⟩, rfl⟩
          case measure => simp [intOf]; omega
        · obtain rfl : k = 16 := by omega
          have HB4 := Lib.hid hb
          have hla := itoa_len (n := (n : Int)) ⟨by omega, HN.out⟩
          have hsa := st_size (Lib.itoa (n : Int))
          have hbt := bt_len n (by omega)
          have hdt := dt_len n (by omega)
          have HV := Lib.hid (fun (w1 : World) (he : Env w1) => show Calls Tryd.prog 10 #[.string (st (Lib.itoa (n : Int)) ++ ⟨#[32, 61, 61, 32, 48]⟩ ++ st (digs 8 c8 n 22) ++ ⟨#[32, 38, 38, 32]⟩ ++ st (Lib.itoa (n : Int)) ++ ⟨#[32, 61, 61, 32, 48, 120]⟩ ++ st (digs 16 c16 n 16) ++ ⟨#[32, 38, 38, 32, 48, 88]⟩ ++ st (digs 16 c16 n 16) ++ ⟨#[32, 61, 61, 32, 48]⟩ ++ st (digs 8 c8 n 22)), .slice none 0 0] w1 _ from by
            rw [Lib.itoa_nonneg, base_cat]
            exact val_nil (bText (Lib.decDigits n) (oT n) (hT 120 n) (hT 88 n)) w1 hbt he _ _ _ (bases_val n (by omega)))
          have HV2 := Lib.hid (fun (w1 : World) (he : Env w1) => val_nil (Lib.decDigits n) w1 hdt he _ _ _ (dec_val n (by omega)))
          clear hbt hdt
          rw [← Lib.itoa_nonneg] at HV2
          obtain ⟨z1, z2, z3, z4, z5, z6, z7, z8, z9⟩ := zs_of hsa hst0 hst1
          generalize digs 8 c8 n 22 = o at *
          generalize digs 16 c16 n 16 = h at *
          clear hb
          go_wp2_with (first
            | (go_at_call 10; (with_reducible refine (HV.out _ (HE.out.bel HB4.out)).mono ?_); rintro e w3 ⟨lo3, cap3, rfl, -, hb3, -⟩; have HB5 := Lib.hid (bel_next HB4.out hb3); clear hb3)
            | (go_at_call 10; (with_reducible refine (HV2.out _ (HE.out.bel HB5.out)).mono ?_); rintro e w4 ⟨lo4, cap4, rfl, -, hb4, -⟩; have HB6 := Lib.hid (bel_next HB5.out hb4); clear hb4))
          go_ret
          exact ⟨rfl, HB6.out⟩
set_option maxRecDepth 100000 in
set_option maxHeartbeats 4000000 in
theorem walk_b1 (n0 : Int) (n : Nat) (hn : (n : Int) ≤ 9223372036854775807) (hng : -(n0 + 1) = (n : Int)) (W : World) (henv : Env W) : Calls Tryd.prog 7 #[.int .i64 n0] W fun e w' => e = .returned (.bool true) ∧ Below W.heap.size W w' := by
  have HN := Lib.hid hn
  have HS := Lib.hid (shown_any W henv)
  have HE := Lib.hid henv
  have HD := Lib.hid (fun w1 => digits_any (n : Int) ⟨by omega, hn⟩ w1)
  have hneg : n0 < 0 := by omega
  clear henv
  go_enter Tryd.func7, Tryd.ntmps7
  go_wp2_with (first
    | (go_at_call 8; (with_reducible refine HS.out.mono ?_); rintro e w1 ⟨rfl, hb1⟩; have HB1 := Lib.hid hb1; clear hb1)
    | (go_at_call 9; (with_reducible refine (HD.out _).mono ?_); rintro e w2 ⟨rfl, hb2⟩; have HB2 := Lib.hid (bel_next HB1.out hb2); clear hb2))
  go_loopw [7, 5] (fun iv ov wr => b8Rel W n iv ov wr) (fun iv _ _ => 22 - (intOf iv).toNat)
  case atStart => exact ⟨0, rfl, rfl, by omega, HB2.out⟩
  case round =>
    obtain ⟨k, rfl, rfl, hk, hb⟩ := hrel
    have hst0 := st_size (digs 8 c8 n k)
    rw [digs_len] at hst0
    by_cases hk22 : k < 22
    · have hqn : n / 8 ^ k < 9223372036854775808 := Nat.lt_of_le_of_lt (Nat.div_le_self _ _) (by omega)
      have h7 : bits .and .i64 ((n : Int) / 2 ^ (3 * k)) 7 = ((n / 8 ^ k % 8 : Nat) : Int) := by
        have := shr8 n k
        rw [show (3 * (k : Int)).toNat = 3 * k by omega] at this
        rw [this, and7 _ hqn]
      have hst := st_cons (c8 (n / 8 ^ k % 8)) (digs 8 c8 n k)
      have hnx : c8 (n / 8 ^ k % 8) :: digs 8 c8 n k = digs 8 c8 n (k + 1) := rfl
      have hd8 : n / 8 ^ k % 8 < 8 := Nat.mod_lt _ (by omega)
      have hc : 48 + ((n / 8 ^ k % 8 : Nat) : Int) = ((c8 (n / 8 ^ k % 8)).toNat : Int) := dig_byte (by omega)
      have hs1 : (⟨#[c8 (n / 8 ^ k % 8)]⟩ : ByteArray).size = 1 := rfl
      clear hqn
      generalize c8 (n / 8 ^ k % 8) = c at hc hst hs1 hnx
      generalize n / 8 ^ k % 8 = d at hc hd8 h7
      have hs := conv_new c wr
      rw [← hc] at hs
      have hbn : Below W.heap.size W (wr.alloc (Obj.cells #[.int .u8 (48 + (d : Int))] 5)) := hb.alloc hb.size _
      have HST := Lib.hid (hst.trans (congrArg st hnx))
      have HC := Lib.hid hc
      clear hst hc hnx
      go_wp2
      go_roundw
      case rel => exact ⟨k + 1, by go_num, congrArg Value.string HST.out, by omega, hbn⟩
      case measure => simp [intOf]; omega
    · obtain rfl : k = 22 := by omega
      have HB3 := Lib.hid hb
      clear hb
      go_wp2
      go_loopw [8, 6] (fun iv ov wr => b16Rel W n iv ov wr) (fun iv _ _ => 16 - (intOf iv).toNat)
      case atStart => exact ⟨0, rfl, rfl, by omega, HB3.out⟩
      case round =>
        obtain ⟨k, rfl, rfl, hk, hb⟩ := hrel
        have hst1 := st_size (digs 16 c16 n k)
        rw [digs_len] at hst1
        by_cases hk16 : k < 16
        · have hqn : n / 16 ^ k < 9223372036854775808 := Nat.lt_of_le_of_lt (Nat.div_le_self _ _) (by omega)
          have h15 : bits .and .i64 ((n : Int) / 2 ^ (4 * k)) 15 = ((n / 16 ^ k % 16 : Nat) : Int) := by
            have := shr16 n k
            rw [show (4 * (k : Int)).toNat = 4 * k by omega] at this
            rw [this, and15 _ hqn]
          have hd16 : n / 16 ^ k % 16 < 16 := Nat.mod_lt _ (by omega)
          have hnx : c16 (n / 16 ^ k % 16) :: digs 16 c16 n k = digs 16 c16 n (k + 1) := rfl
          clear hqn
          generalize n / 16 ^ k % 16 = d at hd16 h15 hnx
          have hlt : d < (⟨#[48, 49, 50, 51, 52, 53, 54, 55, 56, 57, 97, 98, 99, 100, 69, 70]⟩ : ByteArray).size := hd16
          have hcd := hex_at d hd16
          have hs := conv_new ((⟨#[48, 49, 50, 51, 52, 53, 54, 55, 56, 57, 97, 98, 99, 100, 69, 70]⟩ : ByteArray)[d]'hlt) wr
          have hst := st_cons ((⟨#[48, 49, 50, 51, 52, 53, 54, 55, 56, 57, 97, 98, 99, 100, 69, 70]⟩ : ByteArray)[d]'hlt) (digs 16 c16 n k)
          have HST := Lib.hid (hst.trans (congrArg st ((congrArg (· :: digs 16 c16 n k) hcd).trans hnx)))
          have hs1 : (⟨#[(⟨#[48, 49, 50, 51, 52, 53, 54, 55, 56, 57, 97, 98, 99, 100, 69, 70]⟩ : ByteArray)[d]'hlt]⟩ : ByteArray).size = 1 := rfl
          have hbn := Lib.hid (hb.alloc hb.size (Obj.cells #[.int .u8 (((⟨#[48, 49, 50, 51, 52, 53, 54, 55, 56, 57, 97, 98, 99, 100, 69, 70]⟩ : ByteArray)[d]'hlt).toNat : Int)] 5))
          clear hst hcd hnx
          go_wp2
          go_roundw
          case rel => exact ⟨_, _, _, _, _, _, _, _, _, _, _, _, _, _, _, _, _, ⟨k + 1, by go_num, congrArg Value.string HST.out, by omega, hbn.out⟩, rfl⟩
          case measure => simp [intOf]; omega
        · obtain rfl : k = 16 := by omega
          have HB4 := Lib.hid hb
          have hla := itoa_len (n := (n : Int)) ⟨by omega, HN.out⟩
          have hsa := st_size (Lib.itoa (n : Int))
          have hbt := bt_len n (by omega)
          have hdt := dt_len n (by omega)
          have HV := Lib.hid (fun (w1 : World) (he : Env w1) => show Calls Tryd.prog 10 #[.string (st (Lib.itoa (n : Int)) ++ ⟨#[32, 61, 61, 32, 48]⟩ ++ st (digs 8 c8 n 22) ++ ⟨#[32, 38, 38, 32]⟩ ++ st (Lib.itoa (n : Int)) ++ ⟨#[32, 61, 61, 32, 48, 120]⟩ ++ st (digs 16 c16 n 16) ++ ⟨#[32, 38, 38, 32, 48, 88]⟩ ++ st (digs 16 c16 n 16) ++ ⟨#[32, 61, 61, 32, 48]⟩ ++ st (digs 8 c8 n 22)), .slice none 0 0] w1 _ from by
            rw [Lib.itoa_nonneg, base_cat]
            exact val_nil (bText (Lib.decDigits n) (oT n) (hT 120 n) (hT 88 n)) w1 hbt he _ _ _ (bases_val n (by omega)))
          have HV2 := Lib.hid (fun (w1 : World) (he : Env w1) => val_nil (Lib.decDigits n) w1 hdt he _ _ _ (dec_val n (by omega)))
          clear hbt hdt
          rw [← Lib.itoa_nonneg] at HV2
          obtain ⟨z1, z2, z3, z4, z5, z6, z7, z8, z9⟩ := zs_of hsa hst0 hst1
          generalize digs 8 c8 n 22 = o at *
          generalize digs 16 c16 n 16 = h at *
          clear hb
          go_wp2_with (first
            | (go_at_call 10; (with_reducible refine (HV.out _ (HE.out.bel HB4.out)).mono ?_); rintro e w3 ⟨lo3, cap3, rfl, -, hb3, -⟩; have HB5 := Lib.hid (bel_next HB4.out hb3); clear hb3)
            | (go_at_call 10; (with_reducible refine (HV2.out _ (HE.out.bel HB5.out)).mono ?_); rintro e w4 ⟨lo4, cap4, rfl, -, hb4, -⟩; have HB6 := Lib.hid (bel_next HB5.out hb4); clear hb4))
          go_ret
          exact ⟨rfl, HB6.out⟩
theorem walk_bases (a : Int) (ha : I64 a) (W : World) (henv : Env W) : Calls Tryd.prog 7 #[.int .i64 a] W fun e w' => e = .returned (.bool true) ∧ Below W.heap.size W w' := by
  unfold I64 at ha
  by_cases h0 : 0 ≤ a
  · obtain ⟨m, rfl⟩ : ∃ m : Nat, a = (m : Int) := ⟨a.toNat, by omega⟩
    exact walk_b0 m (by omega) W henv
  · exact walk_b1 a (-(a + 1)).toNat (by omega) (by omega) W henv
end Go.Proofs.YtncjelemjdkklaaDoor
