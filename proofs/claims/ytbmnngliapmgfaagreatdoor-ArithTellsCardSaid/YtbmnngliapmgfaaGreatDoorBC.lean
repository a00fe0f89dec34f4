/- The document's Digits; facts on digits. -/
/- Plain facts: numerals read back; what the laws' texts are worth. -/
import Derived.Test.YtbmnngliapmgfaaGreatDoorBN
import Derived.Lib.ItoaMem
import Derived.Lib.ItoaLen
import Derived.Laws.BitsLemmas
namespace Go.Proofs.YtbmnngliapmgfaaGreatDoor
open Go.RowKit
set_option linter.unusedVariables false
set_option linter.unusedSimpArgs false
theorem dec_step {q : Nat} (h : 10 ≤ q) (acc : Bs) : Lib.decDigits (q / 10) ++ (UInt8.ofNat (48 + q % 10) :: acc) = Lib.decDigits q ++ acc := by
  conv => rhs; rw [Lib.decDigits, dif_neg (show ¬ q < 10 by omega)]
  rw [List.append_assoc]; rfl
theorem dec_last {q : Nat} (h : q < 10) (acc : Bs) : UInt8.ofNat (48 + q) :: acc = Lib.decDigits q ++ acc := by
  rw [Lib.decDigits, dif_pos h]; rfl
theorem dig_byte {q : Nat} (h : q < 10) : 48 + (q : Int) = ((UInt8.ofNat (48 + q)).toNat : Int) := by
  rw [UInt8.toNat_ofNat']; omega
theorem conv_new (c : UInt8) (w : World) : (convert 74 9 (.slice (some ⟨w.heap.size, 0, none⟩) 1 1)).run Tryz.prog (w.alloc (.cells #[.int .u8 (c.toNat : Int)] 5)) = .ok (.string ⟨#[c]⟩) (w.alloc (.cells #[.int .u8 (c.toNat : Int)] 5)) :=
  run_convert_bytes_back (P := Tryz.prog) _ 74 9 5 ⟨w.heap.size, 0, none⟩ 1 [c] Tryz.underlying74 Tryz.underlying5 Tryz.underlying9 (fun j hj => by
    obtain rfl : j = 0 := by simp at hj; omega
    rw [Addr.add_lit, Nat.zero_add, Lib.cell_of_heap (heap_alloc_new w _)]; rfl)
theorem st_cons (c : UInt8) (t : Bs) : (⟨#[c]⟩ : ByteArray) ++ st t = st (c :: t) := by
  have : ((⟨#[c]⟩ : ByteArray) ++ st t).data.toList = c :: t := by simp [st]
  rw [← st_of ((⟨#[c]⟩ : ByteArray) ++ st t), this]
def dgRel (W : World) (m : Nat) (uv sv : Value) (wr : World) : Prop := ∃ (q : Nat) (acc : Bs), uv = .int .u64 q ∧ sv = .string (st acc) ∧ q ≤ m ∧ acc.length + Lib.nDigits q ≤ 30 ∧ Lib.decDigits q ++ acc = Lib.decDigits m ∧ Below W.heap.size W wr
theorem neg_u64 {m : Nat} (h1 : 1 ≤ m) (h2 : (m : Int) ≤ 9223372036854775808) : IntKind.u64.wrap (-(IntKind.u64.wrap (-(m : Int)))) = (m : Int) := by
  rw [u64_wrap, u64_wrap]; omega
set_option maxRecDepth 100000 in
set_option maxHeartbeats 2000000 in
theorem digits_pos (n : Int) (h : I64 n) (h0 : 0 ≤ n) (W : World) : Calls Tryz.prog 27 #[.int .i64 n] W fun e w' => e = .returned (.string (st (Lib.itoa n))) ∧ Below W.heap.size W w' := by
  obtain ⟨m, rfl⟩ : ∃ m : Nat, n = (m : Int) := ⟨n.toNat, by omega⟩
  have hm : (m : Int) ≤ 9223372036854775807 := h.2
  have HI := Lib.hid (Lib.itoa_nonneg m)
  have hd20 : Lib.nDigits m ≤ 30 := Nat.le_trans (Lib.nDigits_le20 m (by omega)) (by omega)
  clear h h0
  have hu : IntKind.u64.wrap (m : Int) = (m : Int) := by rw [u64_wrap]; omega
  go_enter Tryz.func27, Tryz.ntmps27
  go_wp2
  go_loopw [3, 4] (fun uv sv wr => dgRel W m uv sv wr) (fun uv _ _ => (intOf uv).toNat)
  case atStart => exact ⟨m, [], rfl, rfl, Nat.le_refl _, by simpa using hd20, by simp, Below.refl _ _⟩
  case round =>
    obtain ⟨q, acc, rfl, rfl, hq, hl, hd, hb⟩ := hrel
    have hss := st_size acc
    by_cases h10 : 10 ≤ q
    · have hq63 : (q : Int) ≤ 9223372036854775808 := by omega
      have hst := st_cons (UInt8.ofNat (48 + q % 10)) acc
      have hD := dec_step h10 acc
      have hNd := Lib.nDigits_big (show ¬ q < 10 by omega)
      have hc : 48 + (q : Int) % 10 = ((UInt8.ofNat (48 + q % 10)).toNat : Int) := by
        have := dig_byte (q := q % 10) (by omega)
        omega
      have hs1 : (⟨#[UInt8.ofNat (48 + q % 10)]⟩ : ByteArray).size = 1 := rfl
      generalize UInt8.ofNat (48 + q % 10) = c at hc hst hD hs1
      have hs := conv_new c wr
      rw [← hc] at hs
      have hbn : Below W.heap.size W (wr.alloc (Obj.cells #[.int .u8 (48 + (q : Int) % 10)] 5)) := hb.alloc hb.size _
      have HST := Lib.hid hst
      have HC := Lib.hid hc
      have HD := Lib.hid hD
      clear hst hc hD
      go_wp2
      go_roundw
      case rel => exact ⟨q / 10, c :: acc, by go_num, congrArg Value.string HST.out, by omega, by rw [List.length_cons]; omega, HD.out.trans hd, hbn⟩
      case measure => simp [intOf]; omega
    · have h10' : q < 10 := by omega
      have hst := st_cons (UInt8.ofNat (48 + q)) acc
      have hD := dec_last h10' acc
      have hc := dig_byte h10'
      have hs1 : (⟨#[UInt8.ofNat (48 + q)]⟩ : ByteArray).size = 1 := rfl
      have hz1 := st_size (UInt8.ofNat (48 + q) :: acc)
      generalize UInt8.ofNat (48 + q) = c at hc hst hD hs1 hz1
      have hs := conv_new c wr
      rw [← hc] at hs
      have hbn : Below W.heap.size W (wr.alloc (Obj.cells #[.int .u8 (48 + (q : Int))] 5)) := hb.alloc hb.size _
      have HC := Lib.hid hc
      have HD := Lib.hid hD
      rw [List.length_cons] at hz1
      clear hc hD
      go_wp2
      go_ret
      exact ⟨congrArg (fun v => Ending.returned (Value.string v)) (by first | rw [HI.out, HD.out.trans hd]; exact st_cons _ _ | rw [HI.out, HD.out.trans hd]), hbn⟩
set_option maxRecDepth 100000 in
set_option maxHeartbeats 2000000 in
theorem digits_neg (n : Int) (h : I64 n) (h0 : n < 0) (W : World) : Calls Tryz.prog 27 #[.int .i64 n] W fun e w' => e = .returned (.string (st (Lib.itoa n))) ∧ Below W.heap.size W w' := by
  obtain ⟨m, rfl⟩ : ∃ m : Nat, n = -(m : Int) := ⟨n.natAbs, by omega⟩
  have h1 : 1 ≤ m := by omega
  have hm : (m : Int) ≤ 9223372036854775808 := by have := h.1; omega
  have HI := Lib.hid (Lib.itoa_neg m h1)
  have hd20 : Lib.nDigits m ≤ 30 := Nat.le_trans (Lib.nDigits_le20 m (by omega)) (by omega)
  clear h h0
  have hu := neg_u64 h1 hm
  have hneg : -(m : Int) < 0 := by omega
  go_enter Tryz.func27, Tryz.ntmps27
  go_wp2
  go_loopw [3, 4] (fun uv sv wr => dgRel W m uv sv wr) (fun uv _ _ => (intOf uv).toNat)
  case atStart => exact ⟨m, [], rfl, rfl, Nat.le_refl _, by simpa using hd20, by simp, Below.refl _ _⟩
  case round =>
    obtain ⟨q, acc, rfl, rfl, hq, hl, hd, hb⟩ := hrel
    have hss := st_size acc
    by_cases h10 : 10 ≤ q
    · have hq63 : (q : Int) ≤ 9223372036854775808 := by omega
      have hst := st_cons (UInt8.ofNat (48 + q % 10)) acc
      have hD := dec_step h10 acc
      have hNd := Lib.nDigits_big (show ¬ q < 10 by omega)
      have hc : 48 + (q : Int) % 10 = ((UInt8.ofNat (48 + q % 10)).toNat : Int) := by
        have := dig_byte (q := q % 10) (by omega)
        omega
      have hs1 : (⟨#[UInt8.ofNat (48 + q % 10)]⟩ : ByteArray).size = 1 := rfl
      generalize UInt8.ofNat (48 + q % 10) = c at hc hst hD hs1
      have hs := conv_new c wr
      rw [← hc] at hs
      have hbn : Below W.heap.size W (wr.alloc (Obj.cells #[.int .u8 (48 + (q : Int) % 10)] 5)) := hb.alloc hb.size _
      have HST := Lib.hid hst
      have HC := Lib.hid hc
      have HD := Lib.hid hD
      clear hst hc hD
      go_wp2
      go_roundw
      case rel => exact ⟨q / 10, c :: acc, by go_num, congrArg Value.string HST.out, by omega, by rw [List.length_cons]; omega, HD.out.trans hd, hbn⟩
      case measure => simp [intOf]; omega
    · have h10' : q < 10 := by omega
      have hst := st_cons (UInt8.ofNat (48 + q)) acc
      have hD := dec_last h10' acc
      have hc := dig_byte h10'
      have hs1 : (⟨#[UInt8.ofNat (48 + q)]⟩ : ByteArray).size = 1 := rfl
      have hz1 := st_size (UInt8.ofNat (48 + q) :: acc)
      generalize UInt8.ofNat (48 + q) = c at hc hst hD hs1 hz1
      have hs := conv_new c wr
      rw [← hc] at hs
      have hbn : Below W.heap.size W (wr.alloc (Obj.cells #[.int .u8 (48 + (q : Int))] 5)) := hb.alloc hb.size _
      have HC := Lib.hid hc
      have HD := Lib.hid hD
      rw [List.length_cons] at hz1
      clear hc hD
      go_wp2
      go_ret
      exact ⟨congrArg (fun v => Ending.returned (Value.string v)) (by first | rw [HI.out, HD.out.trans hd]; exact st_cons _ _ | rw [HI.out, HD.out.trans hd]), hbn⟩
theorem digits_any (n : Int) (h : I64 n) (W : World) : Calls Tryz.prog 27 #[.int .i64 n] W fun e w' => e = .returned (.string (st (Lib.itoa n))) ∧ Below W.heap.size W w' := by
  by_cases h0 : 0 ≤ n
  · exact digits_pos n h h0 W
  · exact digits_neg n h (by omega) W
end Go.Proofs.YtbmnngliapmgfaaGreatDoor
namespace Go.Proofs.YtbmnngliapmgfaaGreatDoor
open Go.RowKit
set_option linter.unusedVariables false
set_option linter.unusedSimpArgs false
deriving instance DecidableEq for Nd
theorem dg_digits : ∀ i : Fin 10, dg (UInt8.ofNat (48 + i.val)) = i.val ∧ isDg (UInt8.ofNat (48 + i.val)) = true ∧ (UInt8.ofNat (48 + i.val) = 48 → i.val = 0) ∧ UInt8.ofNat (48 + i.val) ≠ 45 := by decide +kernel
theorem dg_of {q : Nat} (h : q < 10) : dg (UInt8.ofNat (48 + q)) = q ∧ isDg (UInt8.ofNat (48 + q)) = true ∧ (UInt8.ofNat (48 + q) = 48 → q = 0) ∧ UInt8.ofNat (48 + q) ≠ 45 := dg_digits ⟨q, h⟩
theorem dval_app (b : Nat) (r : Bs) : ∀ (l : Bs) (v : Nat), (∀ c ∈ l, dg c < b) → dval b (l ++ r) v = dval b r (dval b l v)
  | [], v, _ => rfl
  | c :: l, v, h => by
    rw [List.cons_append, dval, dval, if_pos (h c (by simp)), if_pos (h c (by simp))]
    exact dval_app b r l _ fun d hd => h d (by simp [hd])
theorem dlen_app (b : Nat) (r : Bs) : ∀ (l : Bs), (∀ c ∈ l, dg c < b) → dlen b (l ++ r) = l.length + dlen b r
  | [], _ => by simp
  | c :: l, h => by
    rw [List.cons_append, dlen, if_pos (h c (by simp)), dlen_app b r l fun d hd => h d (by simp [hd]), List.length_cons]
    omega
theorem dec_fact (m : Nat) : (∀ c ∈ Lib.decDigits m, isDg c = true) ∧ dval 10 (Lib.decDigits m) 0 = m ∧ ∃ c r, Lib.decDigits m = c :: r ∧ (c = 48 → m = 0) ∧ c ≠ 45 := by
  induction m using Nat.strongRecOn with
  | _ m ih =>
    by_cases h : m < 10
    · obtain ⟨h1, h2, h3, h4⟩ := dg_of h
      rw [Lib.decDigits, dif_pos h]
      refine ⟨fun c hc => ?_, ?_, _, _, rfl, h3, h4⟩
      · rw [List.mem_singleton.1 hc]; exact h2
      · simp only [dval, h1, if_pos h]; omega
    · obtain ⟨a1, a2, c, r, a3, a4, a5⟩ := ih (m / 10) (by omega)
      obtain ⟨h1, h2, h3, h4⟩ := dg_of (q := m % 10) (by omega)
      rw [Lib.decDigits, dif_neg h]
      refine ⟨fun d hd => ?_, ?_, c, r ++ [UInt8.ofNat (48 + m % 10)], by rw [a3]; rfl, fun e => ?_, a5⟩
      · rcases List.mem_append.1 hd with hd | hd
        · exact a1 d hd
        · rw [List.mem_singleton.1 hd]; exact h2
      · rw [dval_app 10 _ _ _ fun d hd => (dg_digit (a1 d hd)).2, a2]
        simp only [dval, h1, if_pos (show m % 10 < 10 by omega)]
        omega
      · have := a4 e; omega
theorem base_dec (m : Nat) (t : Bs) (ht : ∀ c, t.head? = some c → dg c = 16 ∧ c ≠ 120 ∧ c ≠ 88) : cstN (Lib.decDigits m ++ t) = (Lib.decDigits m).length ∧ dval (base (Lib.decDigits m ++ t)).1 ((Lib.decDigits m ++ t).drop (base (Lib.decDigits m ++ t)).2) 0 = m := by
  obtain ⟨h1, h2, c, r, h3, h4, h5⟩ := dec_fact m
  have htl : ∀ b, b ≤ 16 → dlen b t = 0 ∧ ∀ v, dval b t v = v := by
    intro b hb
    cases t with
    | nil => exact ⟨rfl, fun v => rfl⟩
    | cons d q =>
      have := (ht d rfl).1
      exact ⟨by rw [dlen, if_neg (by omega)], fun v => by rw [dval, if_neg (by omega)]⟩
  have hd10 : ∀ c ∈ Lib.decDigits m, dg c < 10 := fun c hc => (dg_digit (h1 c hc)).2
  by_cases hm : m = 0
  · subst hm
    have e : Lib.decDigits 0 = [48] := by decide +kernel
    rw [e]
    have hb : base ([48] ++ t) = (8, 0) := by
      have hx : hexB ([48] ++ t) = false := by
        cases t with
        | nil => rfl
        | cons d q =>
          obtain ⟨-, k1, k2⟩ := ht d rfl
          cases q with
          | nil => rfl
          | cons d2 q => simp [hexB, k1, k2]
      unfold base
      rw [hx]; rfl
    unfold cstN
    rw [hb]
    have := htl 8 (by omega)
    dsimp only
    rw [List.drop_zero, dlen_app 8 t [48] (by decide), dval_app 8 t [48] 0 (by decide), this.1, this.2]
    exact ⟨by simp, by decide⟩
  · have hc : c ≠ 48 := fun e => hm (h4 e)
    have hb : base (Lib.decDigits m ++ t) = (10, 0) := by
      have hx : hexB (Lib.decDigits m ++ t) = false := by
        rw [h3]
        unfold hexB
        rw [List.cons_append]
        split
        · rename_i a x d q heq
          obtain ⟨rfl, -⟩ := List.cons.inj heq
          simp [hc]
        · rfl
      unfold base
      rw [hx, h3]
      simp [hc]
    unfold cstN
    rw [hb]
    have := htl 10 (by omega)
    dsimp only
    rw [List.drop_zero, dlen_app 10 t _ hd10, dval_app 10 t _ 0 hd10, this.1, this.2, h2]
    exact ⟨by omega, rfl⟩
theorem cst_dec (m : Nat) : cstN (Lib.decDigits m) = (Lib.decDigits m).length ∧ cstV (Lib.decDigits m) = wrap64 m := by
  have h := base_dec m [] (by intro c h; cases h)
  rw [List.append_nil] at h
  exact ⟨h.1, by unfold cstV; rw [h.2]⟩
theorem numV_itoa (n : Int) (h : I64 n) : numV (Lib.itoa n) = (n, 0) := by
  unfold I64 at h
  by_cases h0 : n < 0
  · obtain ⟨m, rfl⟩ : ∃ m : Nat, n = -(m : Int) := ⟨n.natAbs, by omega⟩
    rw [Lib.itoa_neg m (by omega)]
    obtain ⟨-, -, c, r, h3, -, -⟩ := dec_fact m
    have hc := cst_dec m
    unfold numV
    rw [if_neg (by simp)]
    have hh : (45 :: Lib.decDigits m).head? = some 45 := rfl
    dsimp only
    rw [if_pos hh, List.tail_cons, if_neg (by rw [hc.1]; simp [h3]), if_pos hh, hc.2]
    refine Prod.ext ?_ rfl
    dsimp only
    unfold wrap64; omega
  · obtain ⟨m, rfl⟩ : ∃ m : Nat, n = (m : Int) := ⟨n.toNat, by omega⟩
    rw [Lib.itoa_nonneg m]
    obtain ⟨-, -, c, r, h3, -, h5⟩ := dec_fact m
    have hc := cst_dec m
    have hh : (Lib.decDigits m).head? ≠ some 45 := by rw [h3]; simpa using h5
    unfold numV
    rw [if_neg (by simp [h3])]
    dsimp only
    rw [if_neg hh, if_neg (by rw [hc.1]; simp [h3]), if_neg hh, hc.2]
    refine Prod.ext ?_ rfl
    dsimp only
    unfold wrap64; omega
/-! bits -/
def bv (x : Int) : BitVec 64 := BitVec.ofInt 64 x
theorem bv_toInt {x : Int} (h : I64 x) : (bv x).toInt = x := by
  unfold I64 at h
  unfold bv
  rw [BitVec.toInt_ofInt]
  exact Int.bmod_eq_of_le (by omega) (by omega)
theorem wrap_bv (v : BitVec 64) : IntKind.i64.wrap (v.toNat : Int) = v.toInt := by
  rw [IntKind.wrap_i64, BitVec.toInt_eq_toNat_cond]
  have := v.isLt
  split <;> omega
theorem bits_and (x y : Int) : bits .and .i64 x y = (bv x &&& bv y).toInt := wrap_bv _
theorem bits_or (x y : Int) : bits .or .i64 x y = (bv x ||| bv y).toInt := wrap_bv _
theorem bits_xor (x y : Int) : bits .xor .i64 x y = (bv x ^^^ bv y).toInt := wrap_bv _
theorem bv_of (v : BitVec 64) : bv v.toInt = v := by unfold bv; exact BitVec.ofInt_toInt
theorem bits_not (x : Int) (h : I64 x) : bits .xor .i64 (-1) x = -1 - x := by
  rw [bits_xor]
  have e : bv (-1) ^^^ bv x = ~~~ bv x := by
    rw [show bv (-1) = BitVec.allOnes 64 from by decide +kernel, BitVec.allOnes_xor]
  rw [e, ← wrap_bv, BitVec.toNat_not]
  have hn : ((bv x).toNat : Int) = x % 18446744073709551616 := by
    unfold bv; rw [BitVec.toNat_ofInt]; omega
  have hl := (bv x).isLt
  unfold I64 at h
  rw [IntKind.wrap_i64]
  omega
theorem bits_three (a : Int) (h : I64 a) : bits .and .i64 a a = a ∧ bits .or .i64 a a = a ∧ bits .xor .i64 a a = 0 := by
  rw [bits_and, bits_or, bits_xor, BitVec.and_self, BitVec.or_self, BitVec.xor_self, bv_toInt h]
  exact ⟨rfl, rfl, by decide⟩
theorem bits_two (a b : Int) : bits .xor .i64 (bits .xor .i64 (bits .xor .i64 (bits .xor .i64 (bits .and .i64 a b) (bits .or .i64 a b)) a) b) (bits .xor .i64 (-1) a) = bits .xor .i64 (-1) a := by
  simp only [bits_and, bits_or, bits_xor, bv_of]
  congr 1
  apply BitVec.eq_of_getLsbD_eq
  intro i hi
  simp only [BitVec.getLsbD_xor, BitVec.getLsbD_and, BitVec.getLsbD_or]
  cases (bv a).getLsbD i <;> cases (bv b).getLsbD i <;> cases (bv (-1)).getLsbD i <;> rfl
end Go.Proofs.YtbmnngliapmgfaaGreatDoor
