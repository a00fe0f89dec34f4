/- The walk of the law ModeOctals. -/
import Derived.Test.YtmjjhoaplcjjcaaM4
namespace Go.Proofs.Ytmjjhoaplcjjcaa
open Go.RowKit

def doRel (n B : Nat) (w : World) (sv iv : Value) (wr : World) : Prop :=
  ∃ (k : Nat) (t : ByteArray), k ≤ 5 ∧ iv = .int .i64 (12 - 3 * (k : Int)) ∧ sv = .string t ∧ t.data.toList = (digs n).take k ∧ Below B w wr
def stRel (n q : Nat) (sv kv : Value) : Prop :=
  ∃ (j : Nat) (t : ByteArray), j ≤ q ∧ kv = .int .i64 ((q : Int) - (j : Int)) ∧ sv = .string t ∧ t.size = 5 - j ∧ octN t.data.toList 0 = some n
set_option maxHeartbeats 3000000 in
theorem octals_walk (a0 a1 a2 : Int) (w : World) :
    Calls Try.prog 9 #[.int .i64 a0, .int .i64 a1, .int .i64 a2] w fun e w' => e = .returned (.bool true) ∧ Below w.heap.size w w' := by
  obtain ⟨n, hn, hn2, hM⟩ := mask_right a0
  obtain ⟨p, hp, hp2, hP⟩ := mask_right a2
  obtain ⟨q, hq3, hQ⟩ := mask_nat a1 3 (by decide)
  have hQ' : bits .and .i64 a1 3 = (q : Int) := hQ
  clear hQ
  obtain ⟨B, hB⟩ : ∃ B, w.heap.size = B := ⟨_, rfl⟩
  have HB := Lib.hid hB
  clear hB
  go_enter Try.func9, Try.ntmps9
  go_wp2_with (go_at_call 11; refine (shown_any _).mono ?_; rintro e w' ⟨rfl, hb0⟩)
  go_loopw [8, 9] (fun sv iv wr => doRel n B w sv iv wr) (fun _ iv _ => (intOf iv + 3).toNat)
  case atStart => exact ⟨0, ⟨#[]⟩, by decide, rfl, rfl, rfl, by rw [← HB.out]; exact hb0⟩
  case round =>
    obtain ⟨k, t, hk, hiv, rfl, ht, hbel⟩ := hrel
    rcases (by omega : k = 0 ∨ k = 1 ∨ k = 2 ∨ k = 3 ∨ k = 4 ∨ k = 5) with rfl | rfl | rfl | rfl | rfl | rfl
    · have hi : u9 = .int .i64 12 := hiv
      subst hi
      clear hiv
      obtain ⟨e, he8, he, hc⟩ := dg_of n 4 4096 hn rfl
      have he' : bits .and .i64 ((n : Int) / 4096) 7 = (e : Int) := he
      have hs := one_byte wr (48 + (e : Int)) (dg n 4) hc
      have ht5 : t.size ≤ 5 := by
        have : t.data.toList.length = t.size := by simp
        rw [← this, ht]; simp [digs]
      have Ht := Lib.hid ht
      have hsz : B ≤ wr.heap.size := by have := hbel.size; have := HB.out; omega
      clear he hc ht
      go_wp2
      go_roundw
      case rel => exact ⟨1, _, by decide, rfl, rfl, (app_one t _ _ Ht.out).trans rfl, hbel.alloc hsz _⟩
      case measure => decide
    · have hi : u9 = .int .i64 9 := hiv
      subst hi
      clear hiv
      obtain ⟨e, he8, he, hc⟩ := dg_of n 3 512 hn rfl
      have he' : bits .and .i64 ((n : Int) / 512) 7 = (e : Int) := he
      have hs := one_byte wr (48 + (e : Int)) (dg n 3) hc
      have ht5 : t.size ≤ 5 := by
        have : t.data.toList.length = t.size := by simp
        rw [← this, ht]; simp [digs]
      have Ht := Lib.hid ht
      have hsz : B ≤ wr.heap.size := by have := hbel.size; have := HB.out; omega
      clear he hc ht
      go_wp2
      go_roundw
      case rel => exact ⟨2, _, by decide, rfl, rfl, (app_one t _ _ Ht.out).trans rfl, hbel.alloc hsz _⟩
      case measure => decide
    · have hi : u9 = .int .i64 6 := hiv
      subst hi
      clear hiv
      obtain ⟨e, he8, he, hc⟩ := dg_of n 2 64 hn rfl
      have he' : bits .and .i64 ((n : Int) / 64) 7 = (e : Int) := he
      have hs := one_byte wr (48 + (e : Int)) (dg n 2) hc
      have ht5 : t.size ≤ 5 := by
        have : t.data.toList.length = t.size := by simp
        rw [← this, ht]; simp [digs]
      have Ht := Lib.hid ht
      have hsz : B ≤ wr.heap.size := by have := hbel.size; have := HB.out; omega
      clear he hc ht
      go_wp2
      go_roundw
      case rel => exact ⟨3, _, by decide, rfl, rfl, (app_one t _ _ Ht.out).trans rfl, hbel.alloc hsz _⟩
      case measure => decide
    · have hi : u9 = .int .i64 3 := hiv
      subst hi
      clear hiv
      obtain ⟨e, he8, he, hc⟩ := dg_of n 1 8 hn rfl
      have he' : bits .and .i64 ((n : Int) / 8) 7 = (e : Int) := he
      have hs := one_byte wr (48 + (e : Int)) (dg n 1) hc
      have ht5 : t.size ≤ 5 := by
        have : t.data.toList.length = t.size := by simp
        rw [← this, ht]; simp [digs]
      have Ht := Lib.hid ht
      have hsz : B ≤ wr.heap.size := by have := hbel.size; have := HB.out; omega
      clear he hc ht
      go_wp2
      go_roundw
      case rel => exact ⟨4, _, by decide, rfl, rfl, (app_one t _ _ Ht.out).trans rfl, hbel.alloc hsz _⟩
      case measure => decide
    · have hi : u9 = .int .i64 0 := hiv
      subst hi
      clear hiv
      obtain ⟨e, he8, he, hc⟩ := dg_of n 0 1 hn rfl
      have he' : bits .and .i64 (n : Int) 7 = (e : Int) := by rw [← he, show ((n : Int) / ((1 : Nat) : Int)) = (n : Int) by omega]
      have hs := one_byte wr (48 + (e : Int)) (dg n 0) hc
      have ht5 : t.size ≤ 5 := by
        have : t.data.toList.length = t.size := by simp
        rw [← this, ht]; simp [digs]
      have Ht := Lib.hid ht
      have hsz : B ≤ wr.heap.size := by have := hbel.size; have := HB.out; omega
      clear he hc ht
      go_wp2
      go_roundw
      case rel => exact ⟨5, _, by decide, rfl, rfl, (app_one t _ _ Ht.out).trans rfl, hbel.alloc hsz _⟩
      case measure => decide
    · have hi : u9 = .int .i64 (-3) := hiv
      subst hi
      clear hiv
      have hts : t.size = 5 := by
        have : t.data.toList.length = t.size := by simp
        rw [← this, ht]; rfl
      have hto : octN t.data.toList 0 = some n := by rw [ht]; exact digs_of n hn
      have Hts := Lib.hid hts
      have Hto := Lib.hid hto
      clear hts hto ht
      obtain ⟨wo, rfl⟩ : ∃ wo : World, wo = wr := ⟨_, rfl⟩
      go_wp2
      go_loop [8, 10] (fun sv kv => stRel n q sv kv) (fun _ kv => (intOf kv).toNat)
      case atStart => exact ⟨0, t, Nat.zero_le _, by go_num, rfl, Hts.out, Hto.out⟩
      case round =>
        clear Hts Hto
        obtain ⟨j, t2, hj, hkv, rfl, hts, hto⟩ := hrel
        have Hto := Lib.hid hto
        have Hts := Lib.hid hts
        have hlo : 2 ≤ t2.size := by omega
        have hhi : t2.size ≤ 5 := by omega
        have h0 : 0 < t2.size := by omega
        clear hto hts
        obtain ⟨r, hr⟩ : ∃ r : Nat, q = j + r := ⟨q - j, by omega⟩
        have Hr := Lib.hid hr
        have hr3 : r ≤ 3 := by omega
        have hi : u10 = .int .i64 (r : Int) := by rw [hkv]; exact congrArg (Value.int .i64) (by omega)
        subst hi
        clear hkv hr
        by_cases hz : 0 < r ∧ t2[0] = 48
        · have t48 : (((t2[0].toNat : Int) == 48) : Bool) = true := u8_true _ _ hz.2
          have hrp := hz.1
          have Hs := Lib.hid (oct_strip t2 h0 hz.2)
          clear hz
          go_wp2
          go_round
          case rel => exact ⟨j + 1, _, by have := Hr.out; omega, congrArg (Value.int .i64) (by have := Hr.out; omega), rfl, by have := Hts.out; simp; omega, by rw [Hs.out]; exact Hto.out⟩
          case measure => simp [intOf]; omega
        · have hos := octS_read t2 n hn hn2 (by omega) hhi Hto.out
          have Ho := Lib.hid (show octV (octS t2.data.toList) = .tuple #[.int .i64 (n : Int), .bool true] by rw [hos]; rfl)
          have Hc := Lib.hid (change_read t2 n p hp hp2 hos)
          have Hl := Lib.hid (long_none t2 (by omega))
          clear hos hn2 hp2
          have hm1 : t2.size ≤ maxLen := by unfold maxLen; omega
          have hm2 : ((⟨#[48, 48, 48, 48, 48]⟩ : ByteArray) ++ t2).size ≤ maxLen := by
            rw [ByteArray.size_append]
            show 5 + t2.size ≤ maxLen
            unfold maxLen; omega
          by_cases hrp : 0 < r
          · have t48 : (((t2[0].toNat : Int) == 48) : Bool) = false := u8_false _ _ (fun e => hz ⟨hrp, e⟩)
            clear hz
            go_wp2_with (first | (go_at_call 16; (with_reducible refine (octal_any t2 hm1 _).mono ?_); rintro e w' ⟨rfl, rfl⟩; rw [Ho.out]) | (go_at_call 16; refine (octal_any _ hm2 _).mono ?_; rintro e w' ⟨rfl, rfl⟩; rw [Hl.out]) | (go_at_call 20; refine (change_any t2 _ _ hm1 _).mono ?_; rintro e w' ⟨rfl, hd⟩; rw [Hc.out]; unfold optV))
            go_ret
            exact ⟨rfl, by rw [HB.out]; exact hbel.trans ((dr_below hd).mono (by have := hbel.size; have := HB.out; omega))⟩
          · obtain rfl : r = 0 := by omega
            clear hz hrp
            go_wp2_with (first | (go_at_call 16; (with_reducible refine (octal_any t2 hm1 _).mono ?_); rintro e w' ⟨rfl, rfl⟩; rw [Ho.out]) | (go_at_call 16; refine (octal_any _ hm2 _).mono ?_; rintro e w' ⟨rfl, rfl⟩; rw [Hl.out]) | (go_at_call 20; refine (change_any t2 _ _ hm1 _).mono ?_; rintro e w' ⟨rfl, hd⟩; rw [Hc.out]; unfold optV))
            go_ret
            exact ⟨rfl, by rw [HB.out]; exact hbel.trans ((dr_below hd).mono (by have := hbel.size; have := HB.out; omega))⟩
end Go.Proofs.Ytmjjhoaplcjjcaa
