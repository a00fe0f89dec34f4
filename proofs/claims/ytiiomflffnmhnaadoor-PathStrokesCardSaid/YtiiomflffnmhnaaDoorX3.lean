/- The walk of the law PathLong. -/
import Derived.Test.YtiiomflffnmhnaaDoorX2
import Derived.Test.YtiiomflffnmhnaaDoorS4
import Derived.Laws.BitsAllLaws
namespace Go.Proofs.YtiiomflffnmhnaaDoor
open Go.RowKit Go.Shelf

theorem app_byte (t : ByteArray) (c : UInt8) (l : List UInt8) (h : t.data.toList = l) : (t ++ ⟨#[c]⟩).data.toList = l ++ [c] := by
  rw [app_str, h]
theorem app_size (t : ByteArray) (c : UInt8) : (t ++ ⟨#[c]⟩).size = t.size + 1 := by rw [ByteArray.size_append]; rfl
def outRel (S M : Nat) (sv iv : Value) : Prop := ∃ (i : Nat) (t : ByteArray), i ≤ M ∧ iv = .int .i64 i ∧ sv = .string t ∧ t.size ≤ i * 33 ∧ t.data.toList = rep S i
def innRel (S i : Nat) (sv kv : Value) : Prop := ∃ (j : Nat) (t : ByteArray), j ≤ S ∧ kv = .int .i64 j ∧ sv = .string t ∧ t.size ≤ i * 33 + 1 + j ∧ t.data.toList = rep S i ++ 47 :: List.replicate j 110
set_option maxHeartbeats 3000000 in
theorem long_walk (a0 a1 : Int) (w : World) :
    Calls Tryd.prog 9 #[.int .i64 a0, .int .i64 a1] w fun e w' => e = .returned (.bool true) ∧ Below w.heap.size w w' := by
  obtain ⟨m, hm, h63⟩ := and_nat a0 63 (by decide)
  obtain ⟨z, hz, h31⟩ := and_nat a1 31 (by decide)
  have h63' : bits .and .i64 a0 63 = (m : Int) := h63
  have h31' : bits .and .i64 a1 31 = (z : Int) := h31
  clear h63 h31
  go_enter Tryd.func9, Tryd.ntmps9
  go_wp2_with (go_at_call 10; refine (shown_any _).mono ?_; rintro e w' ⟨rfl, hb0⟩)
  go_loop [6, 7] (fun sv iv => outRel (1 + z) (1 + m) sv iv) (fun _ iv => 1 + m - (intOf iv).toNat)
  case atStart => exact ⟨0, ⟨#[]⟩, Nat.zero_le _, rfl, rfl, Nat.le_refl _, rfl⟩
  case round =>
    obtain ⟨i, t, hi, rfl, rfl, hts, htl⟩ := hrel
    have Htl := Lib.hid htl
    clear htl
    by_cases hlt : i < 1 + m
    · go_wp2
      go_loop [6, 8] (fun sv kv => innRel (1 + z) i sv kv) (fun _ kv => 1 + z - (intOf kv).toNat)
      case atStart => exact ⟨0, _, Nat.zero_le _, rfl, rfl, by rw [app_size]; omega, app_byte t 47 _ Htl.out⟩
      case round =>
        obtain ⟨j, t2, hj, rfl, rfl, hts2, htl2⟩ := hrel
        have Htl2 := Lib.hid htl2
        clear htl2
        by_cases hlt2 : j < 1 + z
        · go_wp2
          go_round
          case rel => exact ⟨j + 1, _, by omega, by go_num, rfl, by rw [app_size]; omega, by rw [app_byte t2 110 _ Htl2.out, List.replicate_succ']; simp⟩
          case measure => simp [intOf]; omega
        · have hjz : j = 1 + z := by omega
          subst hjz
          go_wp2
          go_round
          case rel => exact ⟨i + 1, t2, by omega, by go_num, rfl, by omega, by rw [Htl2.out, rep_succ]⟩
          case measure => simp [intOf]; omega
    · have him : i = 1 + m := by omega
      subst him
      have hmax : t.size ≤ maxLen := by unfold maxLen; omega
      have hlen : (rep (1 + z) (1 + m)).length = t.size := by rw [← Htl.out, size_len]
      by_cases h : 128 < t.size ∨ 14 < 1 + z
      · have hE : splE t.data.toList = 10 := by rw [Htl.out]; exact rep_long _ _ (by omega) (by rw [hlen]; exact h)
        obtain ⟨e1, e2, e3⟩ := err_all hE (by decide)
        have H1 := Lib.hid (fun w : World => split_of t hmax 10 [] false false 0 hE e1 rfl e2 e3 w)
        clear hE e1 e2 e3 hlen
        by_cases h1 : 128 < t.size
        · clear h
          go_wp2_with (go_at_call 12; refine (H1.out _).mono ?_; rintro e w1 ⟨p, cap, rfl, hr, hb1⟩)
          go_ret
          exact ⟨rfl, (hb0.trans (hb1.mono hb0.size)).alloc (Nat.le_trans hb0.size hb1.size) _⟩
        · have h2 : (14 : Int) < 1 + (z : Int) := by omega
          clear h
          go_wp2_with (go_at_call 12; refine (H1.out _).mono ?_; rintro e w1 ⟨p, cap, rfl, hr, hb1⟩)
          go_ret
          exact ⟨rfl, (hb0.trans (hb1.mono hb0.size)).alloc (Nat.le_trans hb0.size hb1.size) _⟩
      · have h1 : ¬ 128 < t.size := fun x => h (Or.inl x)
        have h2 : ¬ (14 : Int) < 1 + (z : Int) := by omega
        obtain ⟨hE, e1, e2, e3⟩ := rep_ok (1 + z) (1 + m) (by omega) (by omega) (by rw [hlen]; exact h1) (by omega)
        rw [← Htl.out] at hE e1 e2 e3
        obtain ⟨n, hn⟩ : ∃ n, 1 + m = n := ⟨_, rfl⟩
        have hnb : (((n : Int) == 1 + (m : Int)) : Bool) = true := by rw [beq_iff_eq]; omega
        have H1 := Lib.hid (fun w : World => split_of t hmax 0 _ true false n hE e1 (by rw [List.length_replicate]; exact hn) e2 e3 w)
        clear hE e1 e2 e3 hlen h hn
        go_wp2_with (go_at_call 12; refine (H1.out _).mono ?_; rintro e w1 ⟨p, cap, rfl, hr, hb1⟩)
        go_ret
        exact ⟨rfl, (hb0.trans (hb1.mono hb0.size)).alloc (Nat.le_trans hb0.size hb1.size) _⟩
end Go.Proofs.YtiiomflffnmhnaaDoor
