/- Contracts of the document's digits and Field. -/
import Derived.Test.YtikmdjepohmonaaDoorW3
namespace Go.Proofs.YtikmdjepohmonaaDoor
open Go.RowKit

theorem hex_front (m : Nat) : ∀ n, hexS n (m + 1) = hexC (n / 16 ^ m % 16) :: hexS n m := by
  induction m with
  | zero => intro n; simp [hexS]
  | succ m ih =>
    intro n
    rw [hexS, ih (n / 16), hexS, Nat.div_div_eq_div_mul, Nat.mul_comm, ← Nat.pow_succ]; rfl
def dgRel (n k B : Nat) (w : World) (v nv i : Value) (wr : World) : Prop :=
  ∃ m : Nat, m ≤ k ∧ nv = .int .u64 ((n / 16 ^ m : Nat) : Int) ∧ i = .int .i64 ((k : Int) - 1 - (m : Int)) ∧ wr.ownsRow B 5 1 v k ((List.replicate (k - m) 0 ++ hexS n m).map cellB) ∧ Below B w wr
theorem made_zero (n : Nat) : (madeCells #[Value.int .u8 0] n).toList = (List.replicate n (0 : UInt8)).map cellB := by
  rw [List.map_replicate]
  unfold madeCells
  apply List.ext_getElem
  · simp
  · intro j h1 h2
    have : j % 1 = 0 := Nat.mod_one j
    simp [cellB, this]
theorem set_front (k m : Nat) (c : UInt8) (l : List UInt8) (h : m < k) : (List.replicate (k - m) (0 : UInt8) ++ l).set (k - m - 1) c = List.replicate (k - (m + 1)) 0 ++ c :: l := by
  obtain ⟨j, hj⟩ : ∃ j, k - m = j + 1 := ⟨k - m - 1, by omega⟩
  rw [show k - (m + 1) = j from by omega, hj, List.replicate_succ', List.append_assoc, Nat.add_sub_cancel]
  rw [List.set_append_right _ _ (by simp)]
  simp
theorem div_step (n m : Nat) : ((n / 16 ^ m : Nat) : Int) / 16 = ((n / 16 ^ (m + 1) : Nat) : Int) := by
  rw [Nat.pow_succ, ← Nat.div_div_eq_div_mul, Int.natCast_ediv (n / 16 ^ m) 16]; rfl
set_option maxHeartbeats 1600000 in
theorem digits_any (n k : Nat) (hn : n < 18446744073709551616) (hk : k ≤ 16) (h0 : 0 < k) (w : World) :
    Calls Tryd.prog 19 #[.int .u64 n, .int .i64 k] w fun e w' => e = .returned (.string ⟨(hexS n k).toArray⟩) ∧ Below w.heap.size w w' := by
  obtain ⟨B, hB⟩ : ∃ B, w.heap.size = B := ⟨_, rfl⟩
  have HB := Lib.hid hB
  clear hB
  obtain ⟨i0, hi, hz0, hz1, hz2⟩ := info_parts Tryd.info5
  go_enter Tryd.func19, Tryd.ntmps19
  go_wp2_with (refine wpList_make_full _ rfl _ _ 30 rfl B 5 i0 (.int .u8 0) 1 Tryd.underlying30 hi hz0 hz1 .i64 .i64 k k k rfl rfl rfl rfl ?c1 ?c2 ?c3 ?_)
  case c1 => rw [hz2]; omega
  case c2 => unfold maxLen; omega
  case c3 => rw [HB.out]; exact Nat.le_refl _
  intro w1 hown1 hgrow
  rw [made_zero] at hown1
  have hb1 : Below B w w1 := (Below.refl B w).grown hgrow (by rw [HB.out]; exact Nat.le_refl _) (fun g hg => by cases hg)
  clear hgrow
  go_wp2
  obtain ⟨g, hg0⟩ : ∃ g, w.heap.size = g := ⟨_, rfl⟩
  rw [hg0] at hown1
  rw [hg0]
  have hg : B ≤ g := by rw [← hg0, HB.out]; exact Nat.le_refl _
  go_loopw [0, 6] (fun nv i wr => dgRel n k B w (.slice (some ⟨g, 0, none⟩) k k) nv i wr) (fun _ i _ => (intOf i + 1).toNat)
  case atStart => exact ⟨0, Nat.zero_le _, by rw [Nat.pow_zero, Nat.div_one], congrArg (Value.int .i64) (by omega), by simpa [hexS] using hown1, hb1⟩
  case round =>
    obtain ⟨m, hm, rfl, rfl, hown, hbel⟩ := hrel
    have hsz : B ≤ wr.heap.size := by have := hbel.size; have := HB.out; omega
    by_cases hlt : m < k
    · obtain ⟨j, hj⟩ : ∃ j : Nat, k = m + 1 + j := ⟨k - m - 1, by omega⟩
      have ej : ((k : Int) - 1 - (m : Int)) = (j : Int) := by omega
      rw [ej]
      obtain ⟨e, he⟩ : ∃ e, e = n / 16 ^ m % 16 := ⟨_, rfl⟩
      have h16 : e < 16 := by omega
      have hle : n / 16 ^ m ≤ n := Nat.div_le_self _ _
      obtain ⟨q, hq⟩ : ∃ q, n / 16 ^ m = q := ⟨_, rfl⟩
      have hbits : bits .and .u64 (q : Int) 15 = (e : Int) := by rw [he, hq]; exact and15 q (by omega)
      have fz := hown.frozenAt j
      have hlen : (List.replicate (k - m) (0 : UInt8) ++ hexS n m).length = k := by simp [hex_len]; omega
      obtain ⟨b0, hc0⟩ : ∃ b0 : UInt8, wr.cell? ⟨g, j, none⟩ = some (.int .u8 (b0.toNat : Int)) := ⟨_, own_cell hown j (by omega)⟩
      have ho := own_store hown j (hexC e)
      have hset := set_front k m (hexC e) (hexS n m) hlt
      rw [show k - m - 1 = j from by omega] at hset
      rw [hset, he, ← hex_front, ← he] at ho
      have Ho := Lib.hid ho
      have Hc := Lib.hid (let_cell e h16)
      have Hq := Lib.hid (show ((q : Nat) : Int) / 16 = ((n / 16 ^ (m + 1) : Nat) : Int) by rw [← hq]; exact div_step n m)
      have Hj := Lib.hid hj
      have hjk : j < k := by omega
      have hq2 : q < 18446744073709551616 := by omega
      rw [hq]
      clear he hj ej hset ho hle hq hlen hown hown1 hlt hm
      go_wp2
      go_roundw
      case rel => exact ⟨m + 1, by have := Hj.out; omega, congrArg (Value.int .u64) Hq.out, congrArg (Value.int .i64) (by have := Hj.out; omega), by rw [Hc.out]; exact Ho.out, hbel.setCell (p := ⟨g, j, none⟩) hg _⟩
      case measure => simp [intOf]
    · obtain rfl : m = k := by omega
      have hneg : ((m : Int) - 1 - (m : Int)) = -1 := by omega
      rw [hneg]
      have hs := own_string hown
      rw [Nat.sub_self, List.replicate_zero, List.nil_append] at hs
      clear hown hown1
      go_wp2
      go_ret
      exact ⟨rfl, by rw [HB.out]; exact hbel⟩
theorem digits_four (n : Nat) (hn : n < 65536) (w : World) :
    Calls Tryd.prog 19 #[.int .u64 n, .int .i64 4] w fun e w' => e = .returned (.string ⟨(hexS n 4).toArray⟩) ∧ Below w.heap.size w w' :=
  digits_any n 4 (by omega) (by decide) (by decide) w
theorem digits_sixteen (n : Nat) (hn : n < 18446744073709551616) (w : World) :
    Calls Tryd.prog 19 #[.int .u64 n, .int .i64 16] w fun e w' => e = .returned (.string ⟨(hexS n 16).toArray⟩) ∧ Below w.heap.size w w' :=
  digits_any n 16 hn (by decide) (by decide) w
theorem app_data (a b : ByteArray) : (a ++ b).data.toList = a.data.toList ++ b.data.toList := by
  simp [ByteArray.data_append]
set_option maxHeartbeats 1600000 in
theorem refField_any (salt : Int) (s : ByteArray) (hs : s.size ≤ maxLen) (w : World) :
    Calls Tryd.prog 13 #[.int .i64 salt, .string s] w fun e w' => e = .returned (.string ⟨(fieldS salt s.data.toList).toArray⟩) ∧ Below w.heap.size w w' := by
  obtain ⟨sn, hsn, hsn2⟩ := salt_range salt
  obtain ⟨mn, hmn, hmn2⟩ := mix_range salt s.data.toList
  have Hf := Lib.hid (show fieldS salt s.data.toList = hexS sn 4 ++ 36 :: hexS mn 16 by unfold fieldS; rw [hsn, hmn]; rfl)
  have hsn' : bits .and .i64 salt 65535 = (sn : Int) := hsn
  have Hmn := Lib.hid hmn
  clear hsn hmn
  obtain ⟨d4, hd4⟩ : ∃ d : ByteArray, d = ⟨(hexS sn 4).toArray⟩ := ⟨_, rfl⟩
  obtain ⟨d16, hd16⟩ : ∃ d : ByteArray, d = ⟨(hexS mn 16).toArray⟩ := ⟨_, rfl⟩
  have hl4 : d4.size = 4 := by rw [hd4]; exact hex_len 4 sn
  have hl16 : d16.size = 16 := by rw [hd16]; exact hex_len 16 mn
  have hd4' := Lib.hid hd4
  have hd16' := Lib.hid hd16
  clear hd4 hd16
  go_enter Tryd.func13, Tryd.ntmps13
  go_wp2_with (first | (go_at_call 19; (with_reducible refine (digits_four sn hsn2 _).mono ?_); rintro e w1 ⟨rfl, hb1⟩; rw [← hd4'.out]) | (go_at_call 11; refine (refMix_any salt s hs _).mono ?_; rintro e w' ⟨rfl, rfl⟩; rw [Hmn.out]) | (go_at_call 19; (with_reducible refine (digits_sixteen mn hmn2 _).mono ?_); rintro e w2 ⟨rfl, hb2⟩; rw [← hd16'.out]))
  go_ret
  refine ⟨ret_val (congrArg Value.string ?_), hb1.trans (hb2.mono hb1.size)⟩
  rw [Hf.out]
  apply ByteArray.ext
  apply Array.toList_inj.1
  rw [app_data, app_data, hd4'.out, hd16'.out]
  simp
end Go.Proofs.YtikmdjepohmonaaDoor
