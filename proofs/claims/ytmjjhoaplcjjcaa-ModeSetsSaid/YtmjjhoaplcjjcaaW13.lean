/- The contract of letters and the walk of the law ModeSets. -/
import Derived.Test.YtmjjhoaplcjjcaaM5
namespace Go.Proofs.Ytmjjhoaplcjjcaa
open Go.RowKit

theorem bit3 : ∀ x : Fin 8, (bits .and .i64 (x.val : Int) 4 != 0) = x.val.testBit 2 ∧ (bits .and .i64 (x.val : Int) 2 != 0) = x.val.testBit 1 ∧ (bits .and .i64 (x.val : Int) 1 != 0) = x.val.testBit 0 := by decide +kernel
theorem letters_any (x : Nat) (hx : x < 8) (w : World) :
    Calls Try.prog 22 #[.int .i64 (x : Int)] w fun e w' => e = .returned (.string ⟨(ltrL x).toArray⟩) ∧ w = w' := by
  obtain ⟨h2, h1, h0⟩ := bit3 ⟨x, hx⟩
  simp only [] at h2 h1 h0
  have e : ltrL x = (if x.testBit 2 then [114] else []) ++ ((if x.testBit 1 then [119] else []) ++ (if x.testBit 0 then [120] else [])) := rfl
  cases b2 : x.testBit 2 <;> cases b1 : x.testBit 1 <;> cases b0 : x.testBit 0
  all_goals
    rw [b2] at h2
    rw [b1] at h1
    rw [b0] at h0
    rw [b2, b1, b0] at e
    have He := Lib.hid e
    clear e b2 b1 b0
    go_enter Try.func22, Try.ntmps22
    go_wp2
    go_ret
    exact ⟨ret_val (by rw [He.out]; rfl), rfl⟩

theorem small_mask : ∀ a : Fin 64, ∀ b : Fin 8, (a.val * 8 + b.val) &&& 3071 = a.val * 8 + b.val := by decide +kernel
theorem sets_str (sg : UInt8) (u g o : Nat) (U G O : ByteArray) (hU : U.data.toList = ltrL u) (hG : G.data.toList = ltrL g) (hO : O.data.toList = ltrL o) (a b c : ByteArray)
    (ha : a.data.toList = [117, sg]) (hb : b.data.toList = [44, 103, sg]) (hc : c.data.toList = [44, 111, sg]) : (a ++ U ++ b ++ G ++ c ++ O).data.toList = setL sg u g o := by
  simp only [ByteArray.data_append, Array.toList_append, hU, hG, hO, ha, hb, hc]
  unfold setL
  simp
set_option maxHeartbeats 2000000 in
theorem sets_walk (a0 a1 : Int) (a2 : Bool) (w : World) :
    Calls Try.prog 8 #[.int .i64 a0, .int .i64 a1, .bool a2] w fun e w' => e = .returned (.bool true) ∧ Below w.heap.size w w' := by
  obtain ⟨n, hn, hn2, hM⟩ := mask_right a0
  obtain ⟨r, hr, hR0⟩ := mask_nat a1 511 (by decide)
  have hR : bits .and .i64 a1 511 = (r : Int) := hR0
  clear hR0
  have hu : (r : Int) / 64 = ((r / 64 : Nat) : Int) := by omega
  have hg : (r : Int) / 8 = ((r / 8 : Nat) : Int) := by omega
  obtain ⟨u, hu8, eu⟩ : ∃ u : Nat, u < 8 ∧ bits .and .i64 ((r : Int) / 64) 7 = (u : Int) ∧ u = r / 64 % 8 := ⟨r / 64 % 8, Nat.mod_lt _ (by decide), by rw [hu]; exact (and_nat _ 7 (by omega) (by decide)).trans (by rw [Nat.and_two_pow_sub_one_eq_mod (r / 64) 3]), rfl⟩
  obtain ⟨g, hg8, eg⟩ : ∃ g : Nat, g < 8 ∧ bits .and .i64 ((r : Int) / 8) 7 = (g : Int) ∧ g = r / 8 % 8 := ⟨r / 8 % 8, Nat.mod_lt _ (by decide), by rw [hg]; exact (and_nat _ 7 (by omega) (by decide)).trans (by rw [Nat.and_two_pow_sub_one_eq_mod (r / 8) 3]), rfl⟩
  obtain ⟨o, ho8, eo⟩ : ∃ o : Nat, o < 8 ∧ bits .and .i64 (r : Int) 7 = (o : Int) ∧ o = r % 8 := ⟨r % 8, Nat.mod_lt _ (by decide), (and_nat _ 7 (by omega) (by decide)).trans (by rw [Nat.and_two_pow_sub_one_eq_mod r 3]), rfl⟩
  obtain ⟨eu, eu2⟩ := eu
  obtain ⟨eg, eg2⟩ := eg
  obtain ⟨eo, eo2⟩ := eo
  have hrr : u * 64 + g * 8 + o = r := by omega
  obtain ⟨U, hU⟩ : ∃ U : ByteArray, U = ⟨(ltrL u).toArray⟩ := ⟨_, rfl⟩
  obtain ⟨G, hG⟩ : ∃ U : ByteArray, U = ⟨(ltrL g).toArray⟩ := ⟨_, rfl⟩
  obtain ⟨O, hO⟩ : ∃ U : ByteArray, U = ⟨(ltrL o).toArray⟩ := ⟨_, rfl⟩
  have HU := Lib.hid hU
  have HG := Lib.hid hG
  have HO := Lib.hid hO
  have sU : U.size ≤ 3 := by rw [hU]; exact ltr_len u
  have sG : G.size ≤ 3 := by rw [hG]; exact ltr_len g
  have sO : O.size ≤ 3 := by rw [hO]; exact ltr_len o
  have dU : U.data.toList = ltrL u := by rw [hU]
  have dG : G.data.toList = ltrL g := by rw [hG]
  have dO : O.data.toList = ltrL o := by rw [hO]
  have q1 := equal_all u g o n a2 hu8 hg8 ho8 hn hn2
  have q2 := plus_all u g o n a2 hu8 hg8 ho8 hn hn2
  have q3 := minus_all u g o n a2 hu8 hg8 ho8 hn hn2
  rw [hrr] at q1 q2 q3
  have hr3 : r &&& 3071 = r := by
    have := small_mask ⟨r / 8, by omega⟩ ⟨r % 8, by omega⟩
    have e : r / 8 * 8 + r % 8 = r := by omega
    simpa only [e] using this
  have q4 := equal_all u g o r a2 hu8 hg8 ho8 (by omega) hr3
  rw [hrr] at q4
  have s1 := sets_str 61 u g o U G O dU dG dO ⟨#[117, 61]⟩ ⟨#[44, 103, 61]⟩ ⟨#[44, 111, 61]⟩ rfl rfl rfl
  have s2 := sets_str 43 u g o U G O dU dG dO ⟨#[117, 43]⟩ ⟨#[44, 103, 43]⟩ ⟨#[44, 111, 43]⟩ rfl rfl rfl
  have s3 := sets_str 45 u g o U G O dU dG dO ⟨#[117, 45]⟩ ⟨#[44, 103, 45]⟩ ⟨#[44, 111, 45]⟩ rfl rfl rfl
  have Q1 := Lib.hid (show changeS ((⟨#[117, 61]⟩ : ByteArray) ++ U ++ ⟨#[44, 103, 61]⟩ ++ G ++ ⟨#[44, 111, 61]⟩ ++ O).data.toList (n : Int) a2 = some (r : Int) by rw [s1, q1])
  have Q2 := Lib.hid (show changeS ((⟨#[117, 43]⟩ : ByteArray) ++ U ++ ⟨#[44, 103, 43]⟩ ++ G ++ ⟨#[44, 111, 43]⟩ ++ O).data.toList (n : Int) a2 = some (bits .or .i64 (n : Int) (r : Int)) by rw [s2, q2])
  have Q3 := Lib.hid (show changeS ((⟨#[117, 45]⟩ : ByteArray) ++ U ++ ⟨#[44, 103, 45]⟩ ++ G ++ ⟨#[44, 111, 45]⟩ ++ O).data.toList (n : Int) a2 = some (bits .andNot .i64 (n : Int) (r : Int)) by rw [s3, q3])
  have Q4 := Lib.hid (show changeS ((⟨#[117, 61]⟩ : ByteArray) ++ U ++ ⟨#[44, 103, 61]⟩ ++ G ++ ⟨#[44, 111, 61]⟩ ++ O).data.toList (r : Int) a2 = some (r : Int) by rw [s1, q4])
  have m1 : ((⟨#[117, 61]⟩ : ByteArray) ++ U ++ ⟨#[44, 103, 61]⟩ ++ G ++ ⟨#[44, 111, 61]⟩ ++ O).size ≤ maxLen := by
    simp only [ByteArray.size_append]
    show 2 + U.size + 3 + G.size + 3 + O.size ≤ maxLen
    unfold maxLen; omega
  have m2 : ((⟨#[117, 43]⟩ : ByteArray) ++ U ++ ⟨#[44, 103, 43]⟩ ++ G ++ ⟨#[44, 111, 43]⟩ ++ O).size ≤ maxLen := by
    simp only [ByteArray.size_append]
    show 2 + U.size + 3 + G.size + 3 + O.size ≤ maxLen
    unfold maxLen; omega
  have m3 : ((⟨#[117, 45]⟩ : ByteArray) ++ U ++ ⟨#[44, 103, 45]⟩ ++ G ++ ⟨#[44, 111, 45]⟩ ++ O).size ≤ maxLen := by
    simp only [ByteArray.size_append]
    show 2 + U.size + 3 + G.size + 3 + O.size ≤ maxLen
    unfold maxLen; omega
  have M1 := Lib.hid m1
  have M2 := Lib.hid m2
  have M3 := Lib.hid m3
  clear hU hG hO hu hg eu2 eg2 eo2 q1 q2 q3 q4 s1 s2 s3 m1 m2 m3 dU dG dO hr3 hn2 hrr
  go_enter Try.func8, Try.ntmps8
  go_wp2_with (first | (go_at_call 11; refine (shown_any _).mono ?_; rintro e w' ⟨rfl, hb0⟩) | (go_at_call 22; (with_reducible refine (letters_any u hu8 _).mono ?_); rintro e w' ⟨rfl, rfl⟩; rw [← HU.out]) | (go_at_call 22; (with_reducible refine (letters_any g hg8 _).mono ?_); rintro e w' ⟨rfl, rfl⟩; rw [← HG.out]) | (go_at_call 22; (with_reducible refine (letters_any o ho8 _).mono ?_); rintro e w' ⟨rfl, rfl⟩; rw [← HO.out]))
  refine (change_any _ (n : Int) a2 M1.out _).mono ?_
  rintro e w1 ⟨rfl, hd1⟩
  rw [Q1.out]
  unfold optV
  go_wp2_with fail
  refine (change_any _ (n : Int) a2 M2.out _).mono ?_
  rintro e w2 ⟨rfl, hd2⟩
  rw [Q2.out]
  unfold optV
  go_wp2_with fail
  refine (change_any _ (n : Int) a2 M3.out _).mono ?_
  rintro e w3 ⟨rfl, hd3⟩
  rw [Q3.out]
  unfold optV
  go_wp2_with fail
  refine (change_any _ (r : Int) a2 M1.out _).mono ?_
  rintro e w4 ⟨rfl, hd4⟩
  rw [Q4.out]
  unfold optV
  go_wp2_with fail
  go_ret
  exact ⟨rfl, hb0.trans ((dr_below (((hd1.trans hd2).trans hd3).trans hd4)).mono hb0.size)⟩
end Go.Proofs.Ytmjjhoaplcjjcaa
