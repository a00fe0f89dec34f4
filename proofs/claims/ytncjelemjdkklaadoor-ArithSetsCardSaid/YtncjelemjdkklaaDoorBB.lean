/- The document's Digits; facts on digits. -/
import Derived.Test.YtncjelemjdkklaaDoorBA
import Derived.Lib.ItoaMem
import Derived.Lib.ItoaLen
namespace Go.Proofs.YtncjelemjdkklaaDoor
open Go.RowKit
set_option linter.unusedVariables false
set_option linter.unusedSimpArgs false
theorem dec_step {q : Nat} (h : 10 ≤ q) (acc : Bs) : Lib.decDigits (q / 10) ++ (UInt8.ofNat (48 + q % 10) :: acc) = Lib.decDigits q ++ acc := by
  conv => rhs; rw [Lib.decDigits, dif_neg (show ¬ q < 10 by omega)]
  rw [List.append_assoc]; rfl
theorem dec_last {q : Nat} (h : q < 10) (acc : Bs) : UInt8.ofNat (48 + q) :: acc = Lib.decDigits q ++ acc := by
  rw [Lib.decDigits, dif_pos h]; rfl
theorem dig_byte {q : Nat} (h : q < 10) : 48 + (q : Int) = ((UInt8.ofNat (48 + q)).toNat : Int) := by
  rw [UInt8.toNat_ofNat']; omega
theorem conv_new (c : UInt8) (w : World) : (convert 34 9 (.slice (some ⟨w.heap.size, 0, none⟩) 1 1)).run Tryd.prog (w.alloc (.cells #[.int .u8 (c.toNat : Int)] 5)) = .ok (.string ⟨#[c]⟩) (w.alloc (.cells #[.int .u8 (c.toNat : Int)] 5)) :=
  run_convert_bytes_back (P := Tryd.prog) _ 34 9 5 ⟨w.heap.size, 0, none⟩ 1 [c] Tryd.underlying34 Tryd.underlying5 Tryd.underlying9 (fun j hj => by
    obtain rfl : j = 0 := by simp at hj; omega
    rw [Addr.add_lit, Nat.zero_add, Lib.cell_of_heap (heap_alloc_new w _)]; rfl)
theorem st_cons (c : UInt8) (t : Bs) : (⟨#[c]⟩ : ByteArray) ++ st t = st (c :: t) := by
  have : ((⟨#[c]⟩ : ByteArray) ++ st t).data.toList = c :: t := by simp [st]
  rw [← st_of ((⟨#[c]⟩ : ByteArray) ++ st t), this]
def dgRel (W : World) (m : Nat) (uv sv : Value) (wr : World) : Prop := ∃ (q : Nat) (acc : Bs), uv = .int .u64 q ∧ sv = .string (st acc) ∧ q ≤ m ∧ acc.length + Lib.nDigits q ≤ 30 ∧ Lib.decDigits q ++ acc = Lib.decDigits m ∧ Below W.heap.size W wr
theorem neg_u64 {m : Nat} (h1 : 1 ≤ m) (h2 : (m : Int) ≤ 9223372036854775808) : IntKind.u64.wrap (-(IntKind.u64.wrap (-(m : Int)))) = (m : Int) := by
  rw [u64_wrap, u64_wrap]; omega
set_option maxRecDepth 100000 in
set_option maxHeartbeats 2000000 in
theorem digits_pos (n : Int) (h : I64 n) (h0 : 0 ≤ n) (W : World) : Calls Tryd.prog 9 #[.int .i64 n] W fun e w' => e = .returned (.string (st (Lib.itoa n))) ∧ Below W.heap.size W w' := by
  obtain ⟨m, rfl⟩ : ∃ m : Nat, n = (m : Int) := ⟨n.toNat, by omega⟩
  have hm : (m : Int) ≤ 9223372036854775807 := h.2
  have HI := Lib.hid (Lib.itoa_nonneg m)
  have hd20 : Lib.nDigits m ≤ 30 := Nat.le_trans (Lib.nDigits_le20 m (by omega)) (by omega)
  clear h h0
  have hu : IntKind.u64.wrap (m : Int) = (m : Int) := by rw [u64_wrap]; omega
  go_enter Tryd.func9, Tryd.ntmps9
  go_wp2
  go_loopw [3, 4] (fun uv sv wr => dgRel W m uv sv wr) (fun uv _ _ => (intOf uv).toNat)
  case atStart => exact ⟨m, [], rfl, rfl, Nat.le_refl _, by simpa using hd20, by simp, Below.refl _ _⟩
  case round =>
    obtain ⟨q, acc, rfl, rfl, hq, hl, hd, hb⟩ := hrel
    have hss := st_size acc
    by_cases h10 : 10 ≤ q
    · have hq63 : (q : Int) ≤ 9223372036854775808 := by omega
      have hst := st_cons (UInt8.ofNat (48 + q % 10)) acc
      have hD := dec_step h10 acc
      have hNd := Lib.nDigits_big (show ¬ q < 10 by omega)
      have hc : 48 + (q : Int) % 10 = ((UInt8.ofNat (48 + q % 10)).toNat : Int) := by
        have := dig_byte (q := q % 10) (by omega)
        omega
      have hs1 : (⟨#[UInt8.ofNat (48 + q % 10)]⟩ : ByteArray).size = 1 := rfl
      generalize UInt8.ofNat (48 + q % 10) = c at hc hst hD hs1
      have hs := conv_new c wr
      rw [← hc] at hs
      have hbn : Below W.heap.size W (wr.alloc (Obj.cells #[.int .u8 (48 + (q : Int) % 10)] 5)) := hb.alloc hb.size _
      have HST := Lib.hid hst
      have HC := Lib.hid hc
      have HD := Lib.hid hD
      clear hst hc hD
      go_wp2
      go_roundw
      case rel => exact ⟨q / 10, c :: acc, by go_num, congrArg Value.string HST.out, by omega, by rw [List.length_cons]; omega, HD.out.trans hd, hbn⟩
      case measure => simp [intOf]; omega
    · have h10' : q < 10 := by omega
      have hst := st_cons (UInt8.ofNat (48 + q)) acc
      have hD := dec_last h10' acc
      have hc := dig_byte h10'
      have hs1 : (⟨#[UInt8.ofNat (48 + q)]⟩ : ByteArray).size = 1 := rfl
      have hz1 := st_size (UInt8.ofNat (48 + q) :: acc)
      generalize UInt8.ofNat (48 + q) = c at hc hst hD hs1 hz1
      have hs := conv_new c wr
      rw [← hc] at hs
      have hbn : Below W.heap.size W (wr.alloc (Obj.cells #[.int .u8 (48 + (q : Int))] 5)) := hb.alloc hb.size _
      have HC := Lib.hid hc
      have HD := Lib.hid hD
      rw [List.length_cons] at hz1
      clear hc hD
      go_wp2
      go_ret
      exact ⟨congrArg (fun v => Ending.returned (Value.string v)) (by first | rw [HI.out, HD.out.trans hd]; exact st_cons _ _ | rw [HI.out, HD.out.trans hd]), hbn⟩
set_option maxRecDepth 100000 in
set_option maxHeartbeats 2000000 in
theorem digits_neg (n : Int) (h : I64 n) (h0 : n < 0) (W : World) : Calls Tryd.prog 9 #[.int .i64 n] W fun e w' => e = .returned (.string (st (Lib.itoa n))) ∧ Below W.heap.size W w' := by
  obtain ⟨m, rfl⟩ : ∃ m : Nat, n = -(m : Int) := ⟨n.natAbs, by omega⟩
  have h1 : 1 ≤ m := by omega
  have hm : (m : Int) ≤ 9223372036854775808 := by have := h.1; omega
  have HI := Lib.hid (Lib.itoa_neg m h1)
  have hd20 : Lib.nDigits m ≤ 30 := Nat.le_trans (Lib.nDigits_le20 m (by omega)) (by omega)
  clear h h0
  have hu := neg_u64 h1 hm
  have hneg : -(m : Int) < 0 := by omega
  go_enter Tryd.func9, Tryd.ntmps9
  go_wp2
  go_loopw [3, 4] (fun uv sv wr => dgRel W m uv sv wr) (fun uv _ _ => (intOf uv).toNat)
  case atStart => exact ⟨m, [], rfl, rfl, Nat.le_refl _, by simpa using hd20, by simp, Below.refl _ _⟩
  case round =>
    obtain ⟨q, acc, rfl, rfl, hq, hl, hd, hb⟩ := hrel
    have hss := st_size acc
    by_cases h10 : 10 ≤ q
    · have hq63 : (q : Int) ≤ 9223372036854775808 := by omega
      have hst := st_cons (UInt8.ofNat (48 + q % 10)) acc
      have hD := dec_step h10 acc
      have hNd := Lib.nDigits_big (show ¬ q < 10 by omega)
      have hc : 48 + (q : Int) % 10 = ((UInt8.ofNat (48 + q % 10)).toNat : Int) := by
        have := dig_byte (q := q % 10) (by omega)
        omega
      have hs1 : (⟨#[UInt8.ofNat (48 + q % 10)]⟩ : ByteArray).size = 1 := rfl
      generalize UInt8.ofNat (48 + q % 10) = c at hc hst hD hs1
      have hs := conv_new c wr
      rw [← hc] at hs
      have hbn : Below W.heap.size W (wr.alloc (Obj.cells #[.int .u8 (48 + (q : Int) % 10)] 5)) := hb.alloc hb.size _
      have HST := Lib.hid hst
      have HC := Lib.hid hc
      have HD := Lib.hid hD
      clear hst hc hD
      go_wp2
      go_roundw
      case rel => exact ⟨q / 10, c :: acc, by go_num, congrArg Value.string HST.out, by omega, by rw [List.length_cons]; omega, HD.out.trans hd, hbn⟩
      case measure => simp [intOf]; omega
    · have h10' : q < 10 := by omega
      have hst := st_cons (UInt8.ofNat (48 + q)) acc
      have hD := dec_last h10' acc
      have hc := dig_byte h10'
      have hs1 : (⟨#[UInt8.ofNat (48 + q)]⟩ : ByteArray).size = 1 := rfl
      have hz1 := st_size (UInt8.ofNat (48 + q) :: acc)
      generalize UInt8.ofNat (48 + q) = c at hc hst hD hs1 hz1
      have hs := conv_new c wr
      rw [← hc] at hs
      have hbn : Below W.heap.size W (wr.alloc (Obj.cells #[.int .u8 (48 + (q : Int))] 5)) := hb.alloc hb.size _
      have HC := Lib.hid hc
      have HD := Lib.hid hD
      rw [List.length_cons] at hz1
      clear hc hD
      go_wp2
      go_ret
      exact ⟨congrArg (fun v => Ending.returned (Value.string v)) (by first | rw [HI.out, HD.out.trans hd]; exact st_cons _ _ | rw [HI.out, HD.out.trans hd]), hbn⟩
theorem digits_any (n : Int) (h : I64 n) (W : World) : Calls Tryd.prog 9 #[.int .i64 n] W fun e w' => e = .returned (.string (st (Lib.itoa n))) ∧ Below W.heap.size W w' := by
  by_cases h0 : 0 ≤ n
  · exact digits_pos n h h0 W
  · exact digits_neg n h (by omega) W
end Go.Proofs.YtncjelemjdkklaaDoor
