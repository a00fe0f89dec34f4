/- Contracts of the document's digits and number. -/
import Derived.Test.YtjopmchbphjliaaGreatDoorRP
namespace Go.Proofs.YtjopmchbphjliaaGreatDoor
open Go.RowKit Go.Shelf

def dgRel (n : Nat) (w : World) (nv sv : Value) (wr : World) : Prop :=
  ∃ (m : Nat) (t : ByteArray), m ≤ 65535 ∧ nv = .int .i64 m ∧ sv = .string t ∧ t.size ≤ 6 ∧ decPre m ++ t.data.toList = Lib.decDigits n ∧ Below w.heap.size w wr
theorem dec_len5 {n : Nat} (h : n ≤ 65535) : (Lib.decDigits n).length ≤ 5 := by
  have := itoa_len (n := (n : Int)) (by unfold idB; rw [decide_eq_true (by omega), decide_eq_true (by omega)]; rfl)
  rwa [Lib.itoa_nonneg] at this
theorem dec_short {n m : Nat} {t : List UInt8} (hn : n ≤ 65535) (h : decPre m ++ t = Lib.decDigits n) : t.length ≤ 5 := by
  have := dec_len5 hn
  rw [← h, List.length_append] at this; omega
theorem cat_data (s t : ByteArray) : (s ++ t).data.toList = s.data.toList ++ t.data.toList := by rw [ByteArray.data_append]; simp
theorem dig_conv (x : Int) (c : UInt8) (hc : x = (c.toNat : Int)) (W : World) : (convert 48 9 (.slice (some ⟨W.heap.size, 0, none⟩) 1 1)).run Tryz.prog (W.alloc (Obj.cells #[.int .u8 x] 5)) = .ok (.string ⟨#[c]⟩) (W.alloc (Obj.cells #[.int .u8 x] 5)) := by
  rw [hc]
  refine run_convert_bytes_back _ 48 9 5 ⟨W.heap.size, 0, none⟩ 1 [c] Tryz.underlying48 Tryz.underlying5 Tryz.underlying9 fun j hj => ?_
  obtain rfl : j = 0 := by simp at hj; omega
  rw [Addr.add_lit, Nat.zero_add, (Blk.new W 5 _).cell]; rfl
theorem dig_byte (m : Nat) : (48 + (m : Int) % 10) = ((UInt8.ofNat (48 + m % 10)).toNat : Int) := by
  rw [UInt8.toNat_ofNat', Nat.mod_eq_of_lt (by omega)]; omega
set_option maxRecDepth 100000 in
set_option maxHeartbeats 1600000 in
theorem rdigits_any (n : Nat) (hn : n ≤ 65535) (w : World) :
    Calls Tryz.prog 50 #[.int .i64 n] w fun e w' => e = .returned (.string ⟨(Lib.decDigits n).toArray⟩) ∧ Below w.heap.size w w' := by
  have hs0 := dig_conv _ _ (dig_byte n) w
  have h0 := (dec_split n).symm
  have hb0 : Below w.heap.size w (w.alloc (Obj.cells #[.int .u8 (48 + (n : Int) % 10)] 5)) := (Below.refl _ w).alloc (Nat.le_refl _) _
  generalize UInt8.ofNat (48 + n % 10) = c at hs0 h0
  have H0 := Lib.hid h0
  clear h0
  go_enter Tryz.func50, Tryz.ntmps50
  go_wp2
  go_loopw [0, 3] (fun nv sv wr => dgRel n w nv sv wr) (fun nv _ _ => (intOf nv).toNat)
  case atStart => exact ⟨n, ⟨#[c]⟩, hn, rfl, rfl, by show 1 ≤ 6; decide, H0.out, hb0⟩
  case round =>
    obtain ⟨m, t, hm, rfl, rfl, ht, hd, hB⟩ := hrel
    clear hs0 hb0
    by_cases h9 : 9 < m
    · have hs1 := dig_conv _ _ (dig_byte (m / 10)) wr
      have hst := dec_step n m _ (by omega) hd
      have hb1 : Below w.heap.size w (wr.alloc (Obj.cells #[.int .u8 (48 + ((m / 10 : Nat) : Int) % 10)] 5)) := hB.alloc hB.size _
      obtain ⟨q, hq⟩ : ∃ q, m / 10 = q := ⟨_, rfl⟩
      have hqm : q < m := by omega
      have hdv : (m : Int) / 10 = (q : Int) := by omega
      rw [hq] at hs1 hst hb1
      generalize UInt8.ofNat (48 + q % 10) = c1 at hs1 hst
      have hsz : ((⟨#[c1]⟩ : ByteArray) ++ t).size ≤ 6 := by
        have := dec_short hn hst
        rw [← size_len, cat_data]; exact Nat.le_succ_of_le this
      have Hst := Lib.hid (show decPre q ++ ((⟨#[c1]⟩ : ByteArray) ++ t).data.toList = Lib.decDigits n by rw [cat_data]; exact hst)
      have Hsz := Lib.hid hsz
      have Hqm := Lib.hid hqm
      clear hst hq hd hsz hqm
      go_wp2
      go_roundw
      case rel => exact ⟨q, _, by have := Hqm.out; omega, rfl, rfl, Hsz.out, Hst.out, hb1⟩
      case measure => have := Hqm.out; simp [intOf]; omega
    · have Hd := Lib.hid (dec_end n m _ (by omega) hd)
      clear hd
      go_wp2
      go_ret
      exact ⟨ret_val (congrArg Value.string (Mx.list_eq _ _ Hd.out)), hB⟩

def nuRel (s : ByteArray) (nv iv : Value) : Prop :=
  ∃ k m : Nat, k ≤ s.size ∧ iv = .int .i64 k ∧ nv = .int .i64 m ∧ m < 10 ^ k ∧ numV m (s.data.toList.drop k) = numV 0 s.data.toList ∧ (s.data.toList.drop k).all decB = s.data.toList.all decB
theorem pow_four {k m : Nat} (hk : k ≤ 4) (hm : m < 10 ^ k) : m < 10000 :=
  Nat.lt_of_lt_of_le hm (Nat.le_trans (Nat.pow_le_pow_right (by decide) hk) (by decide))
theorem pow_next {k m : Nat} {c : UInt8} (hm : m < 10 ^ k) (h1 : 48 ≤ c.toNat) (h2 : c.toNat ≤ 57) : 10 * m + (c.toNat - 48) < 10 ^ (k + 1) := by
  rw [Nat.pow_succ]; omega
set_option maxHeartbeats 1600000 in
theorem rnumber_any (s : ByteArray) (hs : s.size ≤ maxLen) (w : World) :
    Calls Tryz.prog 35 #[.string s] w fun e w' => e = .returned (.int .i64 (numI s.data.toList)) ∧ w = w' := by
  unfold maxLen at hs
  by_cases h1 : 1 ≤ s.size
  · by_cases h5 : s.size ≤ 5
    · have Hr := Lib.hid (show numI s.data.toList = if s.data.toList.all decB = true then (numV 0 s.data.toList : Int) else -1 by
        unfold numI numOk; rw [size_len, decide_eq_true h1, decide_eq_true h5]; rfl)
      go_enter Tryz.func35, Tryz.ntmps35
      go_wp2
      go_loop [3, 4] (fun nv iv => nuRel s nv iv) (fun _ iv => s.size - (intOf iv).toNat)
      case atStart => exact ⟨0, 0, Nat.zero_le _, rfl, rfl, by decide, rfl, rfl⟩
      case round =>
        obtain ⟨k, m, hk, rfl, rfl, hm, hv, hn⟩ := hrel
        have Hn := Lib.hid hn; clear hn
        have Hv := Lib.hid hv; clear hv
        have Hm := Lib.hid hm; clear hm
        by_cases hlt : k < s.size
        · have hm4 := pow_four (by omega) Hm.out
          have hdr := drop_eq s k hlt
          by_cases hd : 48 ≤ s[k].toNat ∧ s[k].toNat ≤ 57
          · have hW : decB s[k] = true := by unfold decB; rw [decide_eq_true hd.1, decide_eq_true hd.2]; rfl
            have Hs := Lib.hid ((all_step s k hlt hW).symm.trans Hn.out)
            have Hm2 := Lib.hid (pow_next Hm.out hd.1 hd.2)
            have Hv2 := Lib.hid (show numV (10 * m + (s[k].toNat - 48)) (s.data.toList.drop (k + 1)) = numV 0 s.data.toList by rw [← Hv.out, hdr, numV_cons])
            have b48 : decide ((s[k].toNat : Int) < 48) = false := decide_eq_false (by omega)
            have b57 : decide (57 < (s[k].toNat : Int)) = false := decide_eq_false (by omega)
            obtain ⟨hd1, hd2⟩ := hd
            clear hW hdr
            go_wp2
            go_round
            case rel => exact ⟨k + 1, _, by omega, by go_num, by go_num, Hm2.out, Hv2.out, Hs.out⟩
            case measure => simp [intOf]; omega
          · have hW : decB s[k] = false := by unfold decB; exact not_between hd
            have Hs := Lib.hid ((all_stop s k hlt hW).symm.trans Hn.out)
            have Hf := Lib.hid (Hr.out.trans (by rw [← Hs.out]; rfl : _ = (-1 : Int)))
            clear hW hdr
            by_cases h48 : 48 ≤ s[k].toNat
            · have b48 : decide ((s[k].toNat : Int) < 48) = false := decide_eq_false (by omega)
              have b57 : decide (57 < (s[k].toNat : Int)) = true := decide_eq_true (by have := fun h => hd ⟨h48, h⟩; omega)
              clear hd
              go_wp2
              go_ret
              exact ⟨ret_int Hf.out.symm, rfl⟩
            · have b48 : decide ((s[k].toNat : Int) < 48) = true := decide_eq_true (by omega)
              clear hd
              go_wp2
              go_ret
              exact ⟨ret_int Hf.out.symm, rfl⟩
        · have Hs := Lib.hid ((all_end (p := decB) s k (by omega)).symm.trans Hn.out)
          have Hf := Lib.hid (show numI s.data.toList = (m : Int) by
            rw [Hr.out, ← Hs.out, if_pos rfl, ← Hv.out, List.drop_of_length_le (by rw [size_len]; omega)]; rfl)
          go_wp2
          go_ret
          exact ⟨ret_int Hf.out.symm, rfl⟩
    · have Hr := Lib.hid (show numI s.data.toList = -1 by unfold numI numOk; rw [size_len, decide_eq_false h5]; simp)
      go_enter Tryz.func35, Tryz.ntmps35
      go_wp2
      go_ret
      exact ⟨ret_int Hr.out.symm, rfl⟩
  · have Hr := Lib.hid (show numI s.data.toList = -1 by unfold numI numOk; rw [size_len, decide_eq_false h1]; simp)
    go_enter Tryz.func35, Tryz.ntmps35
    go_wp2
    go_ret
    exact ⟨ret_int Hr.out.symm, rfl⟩
end Go.Proofs.YtjopmchbphjliaaGreatDoor
