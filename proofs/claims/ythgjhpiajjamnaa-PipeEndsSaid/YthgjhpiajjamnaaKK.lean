/- The walk of PipeEnds. -/
import Derived.Test.YthgjhpiajjamnaaKI
import Derived.Laws.BitsLemmas
namespace Go.Proofs.Ythgjhpiajjamnaa
open Go.RowKit
set_option linter.unusedVariables false
set_option linter.unusedSimpArgs false

def pwRel (w : World) (P : Nat) (l : Nat → Bs) (rd wr : Nat → Nat) (m : Nat) (iv : Value) (W : World) : Prop := ∃ k : Nat, iv = .int .i64 k ∧ k ≤ m ∧ PW w W P (l k) (rd k) (wr k)
def yRel (w : World) (P m : Nat) (iv : Value) (W : World) : Prop := ∃ (k : Nat) (l : Bs), iv = .int .i64 k ∧ k ≤ m + 1 ∧ PW w W P l (m + 1 - k) 1
def xs (k : Nat) : Bs := List.replicate k 120
theorem toNat_ofInt (m : Int) : (BitVec.ofInt 64 m).toNat = (m % 18446744073709551616).toNat := by
  rw [BitVec.toNat_ofInt]; rfl
theorem and_mask (m : Int) (k : Nat) (hk : k < 9223372036854775808) : bits .and .i64 m (k : Int) = (((m % 18446744073709551616).toNat &&& k : Nat) : Int) := by
  show IntKind.i64.wrap ((BitVec.ofInt 64 m &&& BitVec.ofInt 64 (k : Int)).toNat : Int) = _
  rw [BitVec.toNat_and, toNat_ofInt, toNat_ofInt, show ((k : Int) % 18446744073709551616).toNat = k from by omega]
  have h : (m % 18446744073709551616).toNat &&& k ≤ k := Nat.and_le_right
  rw [IntKind.wrap_i64]; omega
theorem and_le (n : Int) (k : Nat) (hk : k < 9223372036854775808) : ∃ m : Nat, bits .and .i64 n (k : Int) = (m : Int) ∧ m ≤ k := ⟨_, and_mask n k hk, Nat.and_le_right⟩
theorem xs_wr (k : Nat) (h : k < 128) : xs k ++ wrL (xs k) ⟨#[120]⟩ = xs (k + 1) := by
  have e : wrL (xs k) ⟨#[120]⟩ = [120] := by
    unfold wrL
    rw [show (⟨#[120]⟩ : ByteArray).data.toList = [120] from rfl, List.take_of_length_le (by simp [xs]; omega)]
  rw [e]
  unfold xs
  rw [List.replicate_succ']
variable {w0 W : World} {P rd wr : Nat} {l : Bs}
theorem en_join (b : Bool) (h : PW w0 W P l rd wr) (h1 : rd < 1000000) (h2 : wr < 1000000) (rd2 wr2 : Nat) (e1 : rd2 = if b then rd else rd + 1) (e2 : wr2 = if b then wr + 1 else wr) :
    Calls Try.prog 9 #[.pointer (some ⟨P, 0, none⟩), .bool b] W (okSh w0 P (.tuple #[]) l rd2 wr2) := by
  subst e1 e2
  exact (pw_join b h h1 h2).mono fun _ _ h => h
theorem en_leave (b : Bool) (h : PW w0 W P l rd wr) (h1 : rd < 1000000) (h2 : wr < 1000000) (ok : Bool) (rd2 wr2 : Nat) (e0 : ok = decide (0 < if b then wr else rd)) (e1 : rd2 = if b then rd else rd - 1) (e2 : wr2 = if b then wr - 1 else wr) :
    Calls Try.prog 11 #[.pointer (some ⟨P, 0, none⟩), .bool b] W (okSh w0 P (.bool ok) l rd2 wr2) := by
  subst e0 e1 e2
  exact (pw_leave b h h1 h2).mono fun _ _ h => h
theorem en_writeX (k : Nat) (hk : k < 128) (h : PW w0 W P (xs k) rd wr) (h0 : 0 < rd) (h1 : rd < 1000000) :
    Calls Try.prog 13 #[.pointer (some ⟨P, 0, none⟩), .string ⟨#[120]⟩] W fun e w' => ∃ v, okSh w0 P v (xs (k + 1)) rd wr e w' :=
  (pw_write ⟨#[120]⟩ (by decide) h h0 h1).mono fun e w' h => ⟨_, by rw [← xs_wr k hk]; exact h⟩
theorem en_writeY (h : PW w0 W P l rd wr) (h0 : 0 < rd) (h1 : rd < 1000000) :
    Calls Try.prog 13 #[.pointer (some ⟨P, 0, none⟩), .string ⟨#[121]⟩] W fun e w' => ∃ (n : Nat) (l' : Bs), okSh w0 P (.tuple #[.int .i64 n, .int .i64 0]) l' rd wr e w' :=
  (pw_write ⟨#[121]⟩ (by decide) h h0 h1).mono fun e w' h => ⟨_, _, h⟩
theorem en_writeZ (h : PW w0 W P l 0 wr) :
    Calls Try.prog 13 #[.pointer (some ⟨P, 0, none⟩), .string ⟨#[122]⟩] W (okSh w0 P (.tuple #[.int .i64 0, .int .i64 14]) l 0 wr) :=
  (pw_write0 ⟨#[122]⟩ h).mono fun e w' h => h
theorem en_read0 (n : Nat) (hn : 0 < n) (h : PW w0 W P (xs n) rd wr) :
    Calls Try.prog 15 #[.pointer (some ⟨P, 0, none⟩), .int .i64 0] W (okSh w0 P (.tuple #[.string ⟨#[]⟩, .bool false]) (xs n) rd wr) := by
  refine (pw_read 0 h).mono fun e w' h => ?_
  have e1 : readK 0 (xs n).length = 0 := by unfold readK; omega
  have e2 : endB (xs n).length 0 wr = false := by unfold endB; simp [xs]; omega
  rw [e1, e2] at h
  exact h
theorem en_readN (n : Nat) (h : PW w0 W P (xs (n + 1)) rd wr) :
    Calls Try.prog 15 #[.pointer (some ⟨P, 0, none⟩), .int .i64 n] W fun e w' => ∃ T : ByteArray, T.size = n ∧ okSh w0 P (.tuple #[.string T, .bool false]) [120] rd wr e w' := by
  refine (pw_read n h).mono fun e w' h => ⟨⟨((xs (n + 1)).take n).toArray⟩, ?_, ?_⟩
  · show ((xs (n + 1)).take n).length = n
    simp [xs]
  · have el : (xs (n + 1)).length = n + 1 := by simp [xs]
    have e1 : readK n (xs (n + 1)).length = n := by rw [el]; unfold readK; omega
    have e2 : endB (xs (n + 1)).length n wr = false := by rw [el]; unfold endB; simp
    have e3 : (xs (n + 1)).drop n = [120] := by simp [xs]
    rw [e1, e2, e3] at h
    exact h
theorem en_read9 (h : PW w0 W P [120] rd 0) :
    Calls Try.prog 15 #[.pointer (some ⟨P, 0, none⟩), .int .i64 9] W (okSh w0 P (.tuple #[.string ⟨#[120]⟩, .bool true]) [] rd 0) :=
  (pw_read 9 h).mono fun e w' h => h
set_option maxRecDepth 100000 in
set_option maxHeartbeats 4000000 in
theorem ends_any (a b c : Int) (w : World) (ha : (Lit.int .i64 a).wf = true) (hb : (Lit.int .i64 b).wf = true) (hc : (Lit.int .i64 c).wf = true) :
    Calls Try.prog 5 #[.int .i64 a, .int .i64 b, .int .i64 c] w fun e w' => e = .returned (.bool true) ∧ Below w.heap.size w w' := by
  obtain ⟨R, hR, hR7⟩ := and_le a 7 (by decide)
  obtain ⟨V, hV, hV7⟩ := and_le b 7 (by decide)
  obtain ⟨n, hn, hn7⟩ := and_le c 63 (by decide)
  have hR' : bits .and .i64 a 7 = (R : Int) := hR
  have hV' : bits .and .i64 b 7 = (V : Int) := hV
  have hn' : bits .and .i64 c 63 = (n : Int) := hn
  have hn2 : (1 : Int) + (n : Int) = ((n + 1 : Nat) : Int) := by omega
  clear hR hV hn ha hb hc
  go_enter Try.func5, Try.ntmps5
  go_wp2_with fail
  refine (shown_any w).mono ?_
  rintro e w1 ⟨rfl, b1⟩
  go_wp2_with fail
  refine (pw_new b1).mono ?_
  rintro e w2 ⟨P, rfl, p2⟩
  have H2 := Lib.hid p2
  clear p2 b1
  go_wp2
  go_loopw [9] (fun iv wr => pwRel w P (fun _ => []) (fun k => 1 + k) (fun _ => 1) R iv wr) (fun iv _ => R - (intOf iv).toNat)
  case atStart => exact ⟨0, rfl, Nat.zero_le _, H2.out⟩
  case round =>
    obtain ⟨k, rfl, hk, hp⟩ := hrel
    clear H2
    by_cases hlt : k < R
    · go_wp2_with fail
      refine (en_join false hp (by omega) (by omega) (1 + (k + 1)) 1 rfl rfl).mono ?_
      rintro e w3 ⟨rfl, p3⟩
      clear hp
      go_wp2
      go_roundw
      case rel => exact ⟨k + 1, by go_num, by omega, p3⟩
      case measure => simp [intOf]; omega
    · obtain rfl : k = R := by omega
      have H3 := Lib.hid hp
      clear hp
      go_wp2
      go_loopw [10] (fun iv wr => pwRel w P (fun _ => []) (fun _ => 1 + k) (fun j => 1 + j) V iv wr) (fun iv _ => V - (intOf iv).toNat)
      case atStart => exact ⟨0, rfl, Nat.zero_le _, H3.out⟩
      case round =>
        obtain ⟨j, rfl, hj, hp⟩ := hrel
        clear H3
        by_cases hlt : j < V
        · go_wp2_with fail
          refine (en_join true hp (by omega) (by omega) (1 + k) (1 + (j + 1)) rfl rfl).mono ?_
          rintro e w3 ⟨rfl, p3⟩
          clear hp
          go_wp2
          go_roundw
          case rel => exact ⟨j + 1, by go_num, by omega, p3⟩
          case measure => simp [intOf]; omega
        · obtain rfl : j = V := by omega
          have H4 := Lib.hid hp
          clear hp
          go_wp2
          have HR := Lib.hid (show 0 < 1 + k ∧ 1 + k < 1000000 by omega)
          have HR2 := Lib.hid (show 1 + k = k + 1 by omega)
          go_loopw [12] (fun iv wr => pwRel w P xs (fun _ => 1 + k) (fun _ => 1 + j) (n + 1) iv wr) (fun iv _ => n + 1 - (intOf iv).toNat)
          case atStart => exact ⟨0, rfl, Nat.zero_le _, H4.out⟩
          case round =>
            obtain ⟨i, rfl, hi, hp⟩ := hrel
            clear H4
            by_cases hlt : i < n + 1
            · go_wp2_with fail
              refine (en_writeX i (by omega) hp HR.out.1 HR.out.2).mono ?_
              rintro e w3 ⟨v, rfl, p3⟩
              clear hp
              go_wp2
              go_roundw
              case rel => exact ⟨i + 1, by go_num, by omega, p3⟩
              case measure => simp [intOf]; omega
            · obtain rfl : i = n + 1 := by omega
              have H5 := Lib.hid hp
              clear hp hlt hi
              go_wp2
              go_loopw [13] (fun iv wr => pwRel w P (fun _ => xs (n + 1)) (fun _ => 1 + k) (fun q => j + 1 - q) (j + 1) iv wr) (fun iv _ => j + 1 - (intOf iv).toNat)
              case atStart => exact ⟨0, rfl, Nat.zero_le _, by show PW w _ P (xs (n + 1)) (1 + k) (j + 1 - 0); rw [Nat.sub_zero, Nat.add_comm j 1]; exact H5.out⟩
              case round =>
                obtain ⟨q, rfl, hq, hp⟩ := hrel
                clear H5
                by_cases hlt : q < j + 1
                · have hle : (q : Int) ≤ j := by omega
                  go_wp2_with fail
                  refine (en_read0 (n + 1) (by omega) hp).mono ?_
                  rintro e w3 ⟨rfl, p3⟩
                  clear hp
                  go_wp2_with fail
                  refine (en_leave true p3 HR.out.2 (by omega) true (1 + k) (j + 1 - (q + 1)) (by simp; omega) rfl (by simp; omega)).mono ?_
                  rintro e w4 ⟨rfl, p4⟩
                  clear p3
                  go_wp2
                  go_roundw
                  case rel => exact ⟨q + 1, by go_num, by omega, p4⟩
                  case measure => simp [intOf]; omega
                · obtain rfl : q = j + 1 := by omega
                  have hle : ¬ ((j + 1 : Nat) : Int) ≤ j := by omega
                  have p5 : PW w wr P (xs (n + 1)) (1 + k) 0 := by rw [← Nat.sub_self (j + 1)]; exact hp
                  have hsub : (n : Int) + 1 - 1 = (n : Int) := by omega
                  clear hp hlt hq
                  go_wp2_with fail
                  refine (en_readN n p5).mono ?_
                  rintro e w6 ⟨T, hT, rfl, p6⟩
                  clear p5
                  go_wp2_with fail
                  refine (en_read9 p6).mono ?_
                  rintro e w7 ⟨rfl, p7⟩
                  clear p6
                  go_wp2_with fail
                  refine (en_leave true p7 HR.out.2 (by decide) false (1 + k) 0 rfl rfl rfl).mono ?_
                  rintro e w8 ⟨rfl, p8⟩
                  clear p7 hT
                  go_wp2_with fail
                  refine (en_join true p8 HR.out.2 (by decide) (k + 1) 1 HR2.out.symm rfl).mono ?_
                  rintro e w9 ⟨rfl, p9⟩
                  have H9 := Lib.hid p9
                  clear p8 p9
                  go_wp2
                  go_loopw [20] (fun iv wr => yRel w P k iv wr) (fun iv _ => k + 1 - (intOf iv).toNat)
                  case atStart => exact ⟨0, [], rfl, Nat.zero_le _, H9.out⟩
                  case round =>
                    obtain ⟨s, l, rfl, hs, hp⟩ := hrel
                    clear H9
                    by_cases hlt : s < k + 1
                    · have hle2 : (s : Int) ≤ k := by omega
                      go_wp2_with fail
                      refine (en_writeY hp (by omega) (by omega)).mono ?_
                      rintro e w10 ⟨m, l', rfl, p10⟩
                      clear hp
                      go_wp2_with fail
                      refine (en_leave false p10 (by omega) (by decide) true (k + 1 - (s + 1)) 1 (by simp; omega) (by simp; omega) rfl).mono ?_
                      rintro e w11 ⟨rfl, p11⟩
                      clear p10
                      go_wp2
                      go_roundw
                      case rel => exact ⟨s + 1, l', by go_num, by omega, p11⟩
                      case measure => simp [intOf]; omega
                    · obtain rfl : s = k + 1 := by omega
                      have hle2 : ¬ ((k + 1 : Nat) : Int) ≤ k := by omega
                      have p12 : PW w wr P l 0 1 := by rw [← Nat.sub_self (k + 1)]; exact hp
                      clear hp hlt hs
                      go_wp2_with fail
                      refine (en_writeZ p12).mono ?_
                      rintro e w13 ⟨rfl, p13⟩
                      clear p12
                      go_wp2_with fail
                      refine (en_leave false p13 (by decide) (by decide) false 0 1 rfl rfl rfl).mono ?_
                      rintro e w14 ⟨rfl, p14⟩
                      clear p13
                      go_wp2
                      go_ret
                      exact ⟨rfl, p14.bel⟩
end Go.Proofs.Ythgjhpiajjamnaa
