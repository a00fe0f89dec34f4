/- Contracts of strconv.ParseUint at base sixteen, of four digits that are right. -/
import Derived.Test.YtikmdjepohmonaaDoorW4
import Derived.Lib.ConvBytes
import Derived.Laws.Closers25
import Derived.Laws.Closers25b
import Derived.BigCall
import Derived.BigGuard
namespace Go.Proofs.YtikmdjepohmonaaDoor
open Go.RowKit

theorem low_eq (c : UInt8) (h : 97 ≤ c.toNat) (h2 : c.toNat ≤ 102) : bits .or .u8 (c.toNat : Int) 32 = (c.toNat : Int) := by
  have : ∀ d : Fin 6, bits .or .u8 ((d.val + 97 : Nat) : Int) 32 = ((d.val + 97 : Nat) : Int) := by decide
  have := this ⟨c.toNat - 97, by omega⟩
  simp only [show c.toNat - 97 + 97 = c.toNat from by omega] at this
  exact this
theorem lower_any (c : UInt8) (h : 97 ≤ c.toNat) (h2 : c.toNat ≤ 102) (w : World) :
    Calls Tryd.prog 27 #[.int .u8 (c.toNat : Int)] w fun e w' => e = .returned (.int .u8 (c.toNat : Int)) ∧ w = w' := by
  have H := Lib.hid (low_eq c h h2)
  go_enter Tryd.func27, Tryd.ntmps27
  go_wp2
  go_ret
  exact ⟨ret_val (congrArg (Value.int .u8) H.out), rfl⟩
theorem val_step (l : List UInt8) (k : Nat) (h : k < l.length) (d : Nat) (hd : digN (l[k]'h) = some d) : valS (l.take (k + 1)) = 16 * valS (l.take k) + d := by
  rw [List.take_succ_eq_append_getElem h, val_append]; unfold digV; rw [hd]; rfl
theorem digN_lt (c : UInt8) (d : Nat) (h : digN c = some d) : d < 16 := by
  unfold digN at h
  by_cases h1 : 48 ≤ c.toNat ∧ c.toNat ≤ 57
  · rw [if_pos h1] at h; cases h; omega
  · rw [if_neg h1] at h
    by_cases h2 : 97 ≤ c.toNat ∧ c.toNat ≤ 102
    · rw [if_pos h2] at h; cases h; omega
    · rw [if_neg h2] at h; cases h
theorem val_lt (l : List UInt8) (hd : ∀ c ∈ l, digB c = true) (k : Nat) : k ≤ l.length → valS (l.take k) < 16 ^ k := by
  induction k with
  | zero => intro _; simp [valS]
  | succ k ih =>
    intro h
    have hc := hd (l[k]'(by omega)) (List.getElem_mem _)
    obtain ⟨d, he⟩ := Option.isSome_iff_exists.1 hc
    have := digN_lt _ _ he
    have := ih (by omega)
    rw [val_step l k (by omega) d he, Nat.pow_succ]; omega
def puRel (bs : List UInt8) (vu vn vi : Value) : Prop :=
  ∃ (k : Nat) (a : Int), vu = .bool false ∧ vn = .int .u64 a ∧ vi = .int .i64 k ∧ k ≤ 4 ∧ Hid (a = (valS (bs.take k) : Nat))
set_option maxHeartbeats 6400000 in
set_option maxRecDepth 100000 in
theorem parseIn_any (t : ByteArray) (h4 : t.size = 4) (hd : ∀ c ∈ t.data.toList, digB c = true) (w : World) :
    Calls Tryd.prog 25 #[.string t, .int .i64 16, .int .i64 16] w fun e w' => e = .returned (.tuple #[.int .u64 (valS t.data.toList : Nat), .nilIface]) ∧ w' = Lib.bytesWorld w 5 t := by
  have hemp : t.toList.isEmpty = false := by
    rw [← decide_eq_emptyBytes]
    exact decide_eq_false (fun h => by rw [h] at h4; cases h4)
  have hcv := Lib.run_convert_string_bytes (P := Tryd.prog) w 9 30 5 t (u := .string) Tryd.underlying9 Tryd.underlying30 Tryd.underlying5
  have hB : ∀ j, j < t.size → (Lib.bytesWorld w 5 t).cell? ⟨w.heap.size, j, none⟩ = some (.int .u8 (t.data.toList.getD j 0).toNat) := fun j hj => Lib.bytesWorld_cell w 5 t j hj
  obtain ⟨W1, hW1⟩ : ∃ W1, W1 = Lib.bytesWorld w 5 t := ⟨_, rfl⟩
  rw [← hW1] at hcv hB ⊢
  clear hW1
  obtain ⟨bs, hL⟩ : ∃ bs, bs = t.data.toList := ⟨_, rfl⟩
  have hLn : bs.length = t.size := by rw [hL]; simp
  rw [← hL] at hB hd ⊢
  clear hL
  have hmv : IntKind.u64.wrap (IntKind.u64.wrap 65536 - 1) = 65535 := by
    rw [IntKind.wrap_u64, IntKind.wrap_u64]
    decide
  have Hd := Lib.hid hd
  clear hd
  go_enter Tryd.func25, Tryd.ntmps25
  go_wp2
  go_loop [12, 13, 101] (fun vu vn vi => puRel bs vu vn vi) (fun _ _ vi => 4 - (intOf vi).toNat)
  case atStart => exact ⟨0, 0, rfl, rfl, rfl, by omega, rfl⟩
  case round =>
    obtain ⟨k, a, rfl, rfl, rfl, hk, hh⟩ := hrel
    by_cases hkn : k < 4
    · have hc := hB k (by omega)
      have hget : bs.getD k 0 = bs[k]'(by omega) := by simp [List.getD, List.getElem?_eq_getElem (show k < bs.length by omega)]
      rw [hget] at hc
      have hdg := Hd.out _ (List.getElem_mem (show k < bs.length by omega))
      obtain ⟨d, he⟩ := Option.isSome_iff_exists.1 hdg
      have hst := val_step bs k (by omega) d he
      have hacc : 0 ≤ a ∧ a ≤ 4095 := by
        have := val_lt bs Hd.out k (by omega)
        have h3 : 16 ^ k ≤ 16 ^ 3 := Nat.pow_le_pow_right (by decide) (by omega)
        have := hh.out
        omega
      obtain ⟨a0, a1⟩ := hacc
      have hd16 := digN_lt _ _ he
      have hst : ((valS (bs.take (k + 1)) : Nat) : Int) = a * 16 + (d : Int) := by rw [hst]; have := hh.out; omega
      clear hdg hget hB hh
      generalize bs[k]'(by omega) = c at hc he
      have hc256 : c.toNat < 256 := c.toNat_lt
      have Hst := Lib.hid hst
      clear hst
      by_cases hdig : 48 ≤ c.toNat ∧ c.toNat ≤ 57
      · obtain ⟨hd0, hd1⟩ := hdig
        rw [dig_lo c hd0 hd1] at he
        have hdd : c.toNat - 48 = d := Option.some.inj he
        have HN := Lib.hid (show a * 16 + ((c.toNat : Int) - 48) = ((valS (bs.take (k + 1)) : Nat) : Int) by rw [Hst.out]; omega)
        have i16 : (c.toNat : Int) - 48 < 16 := by omega
        have iov : a * 16 + ((c.toNat : Int) - 48) ≤ 65535 := by omega
        clear he hdd hd16 Hst
        go_wp2
        exact ⟨⟨k + 1, a * 16 + ((c.toNat : Int) - 48), rfl, (by first | rfl | (congr 1; omega)), (by first | rfl | (congr 1; omega)), hkn, HN⟩, by simp [intOf]; omega⟩
      · by_cases hlet : 97 ≤ c.toNat ∧ c.toNat ≤ 102
        · obtain ⟨hd0, hd1⟩ := hlet
          rw [dig_hi c hd0 hd1] at he
          have hdd : c.toNat - 87 = d := Option.some.inj he
          have HN := Lib.hid (show a * 16 + ((c.toNat : Int) - 97 + 10) = ((valS (bs.take (k + 1)) : Nat) : Int) by rw [Hst.out]; omega)
          have i16 : (c.toNat : Int) - 97 + 10 < 16 := by omega
          have iov : a * 16 + ((c.toNat : Int) - 97 + 10) ≤ 65535 := by omega
          clear he hdd hd16 Hst
          go_wp2_with (go_at_call 27; refine (lower_any c hd0 hd1 _).mono ?_; rintro e w' ⟨rfl, rfl⟩)
          exact ⟨⟨k + 1, a * 16 + ((c.toNat : Int) - 97 + 10), rfl, (by first | rfl | (congr 1; omega)), (by first | rfl | (congr 1; omega)), hkn, HN⟩, by simp [intOf]; omega⟩
        · rw [dig_no c hdig hlet] at he; cases he
    · obtain rfl : k = 4 := by omega
      have hf : a = (valS bs : Nat) := by rw [hh.out, List.take_of_length_le (by omega)]
      have Hf := Lib.hid hf
      clear hh hf
      go_wp2
      go_ret2
      refine ⟨ret_val ?_, rfl⟩

      show Value.tuple #[.int .u64 a, .nilIface] = _
      rw [← Hf.out]
end Go.Proofs.YtikmdjepohmonaaDoor
