/- Words in the nodes: the law's own functions. -/
import Derived.Test.YtoahgblgchmclaaQE
import Derived.Test.YtoahgblgchmclaaPW
namespace Go.Proofs.Ytoahgblgchmclaa
open Go.RowKit
set_option linter.unusedVariables false
set_option linter.unusedSimpArgs false
set_option maxHeartbeats 4000000 in
theorem resv_any (t : Bs) (w : World) :
    Calls Try.prog 12 #[.string (st t)] w fun e w' => e = .returned (.bool (isRes t)) ∧ w' = w := by
  by_cases hr : isRes t = true
  · have hm : t ∈ resWords := List.contains_iff_mem.1 hr
    unfold resWords at hm
    simp only [List.mem_cons, List.mem_nil_iff, or_false] at hm
    rcases hm with rfl | rfl | rfl | rfl | rfl | rfl | rfl | rfl | rfl | rfl | rfl | rfl | rfl | rfl | rfl | rfl
    · have f0 := (st_yes [33]).1
      go_enter Try.func12, Try.ntmps12
      go_wp2
      go_ret
      exact ⟨rfl, rfl⟩
    · have f0 := (st_no [123] [33] (by decide)).1; have f1 := (st_yes [123]).1
      go_enter Try.func12, Try.ntmps12
      go_wp2
      go_ret
      exact ⟨rfl, rfl⟩
    · have f0 := (st_no [125] [33] (by decide)).1; have f1 := (st_no [125] [123] (by decide)).1; have f2 := (st_yes [125]).1
      go_enter Try.func12, Try.ntmps12
      go_wp2
      go_ret
      exact ⟨rfl, rfl⟩
    · have f0 := (st_no [99, 97, 115, 101] [33] (by decide)).1; have f1 := (st_no [99, 97, 115, 101] [123] (by decide)).1; have f2 := (st_no [99, 97, 115, 101] [125] (by decide)).1; have f3 := (st_yes [99, 97, 115, 101]).1
      go_enter Try.func12, Try.ntmps12
      go_wp2
      go_ret
      exact ⟨rfl, rfl⟩
    · have f0 := (st_no [100, 111] [33] (by decide)).1; have f1 := (st_no [100, 111] [123] (by decide)).1; have f2 := (st_no [100, 111] [125] (by decide)).1; have f3 := (st_no [100, 111] [99, 97, 115, 101] (by decide)).1; have f4 := (st_yes [100, 111]).1
      go_enter Try.func12, Try.ntmps12
      go_wp2
      go_ret
      exact ⟨rfl, rfl⟩
    · have f0 := (st_no [100, 111, 110, 101] [33] (by decide)).1; have f1 := (st_no [100, 111, 110, 101] [123] (by decide)).1; have f2 := (st_no [100, 111, 110, 101] [125] (by decide)).1; have f3 := (st_no [100, 111, 110, 101] [99, 97, 115, 101] (by decide)).1; have f4 := (st_no [100, 111, 110, 101] [100, 111] (by decide)).1; have f5 := (st_yes [100, 111, 110, 101]).1
      go_enter Try.func12, Try.ntmps12
      go_wp2
      go_ret
      exact ⟨rfl, rfl⟩
    · have f0 := (st_no [101, 108, 105, 102] [33] (by decide)).1; have f1 := (st_no [101, 108, 105, 102] [123] (by decide)).1; have f2 := (st_no [101, 108, 105, 102] [125] (by decide)).1; have f3 := (st_no [101, 108, 105, 102] [99, 97, 115, 101] (by decide)).1; have f4 := (st_no [101, 108, 105, 102] [100, 111] (by decide)).1; have f5 := (st_no [101, 108, 105, 102] [100, 111, 110, 101] (by decide)).1; have f6 := (st_yes [101, 108, 105, 102]).1
      go_enter Try.func12, Try.ntmps12
      go_wp2
      go_ret
      exact ⟨rfl, rfl⟩
    · have f0 := (st_no [101, 108, 115, 101] [33] (by decide)).1; have f1 := (st_no [101, 108, 115, 101] [123] (by decide)).1; have f2 := (st_no [101, 108, 115, 101] [125] (by decide)).1; have f3 := (st_no [101, 108, 115, 101] [99, 97, 115, 101] (by decide)).1; have f4 := (st_no [101, 108, 115, 101] [100, 111] (by decide)).1; have f5 := (st_no [101, 108, 115, 101] [100, 111, 110, 101] (by decide)).1; have f6 := (st_no [101, 108, 115, 101] [101, 108, 105, 102] (by decide)).1; have f7 := (st_yes [101, 108, 115, 101]).1
      go_enter Try.func12, Try.ntmps12
      go_wp2
      go_ret
      exact ⟨rfl, rfl⟩
    · have f0 := (st_no [101, 115, 97, 99] [33] (by decide)).1; have f1 := (st_no [101, 115, 97, 99] [123] (by decide)).1; have f2 := (st_no [101, 115, 97, 99] [125] (by decide)).1; have f3 := (st_no [101, 115, 97, 99] [99, 97, 115, 101] (by decide)).1; have f4 := (st_no [101, 115, 97, 99] [100, 111] (by decide)).1; have f5 := (st_no [101, 115, 97, 99] [100, 111, 110, 101] (by decide)).1; have f6 := (st_no [101, 115, 97, 99] [101, 108, 105, 102] (by decide)).1; have f7 := (st_no [101, 115, 97, 99] [101, 108, 115, 101] (by decide)).1; have f8 := (st_yes [101, 115, 97, 99]).1
      go_enter Try.func12, Try.ntmps12
      go_wp2
      go_ret
      exact ⟨rfl, rfl⟩
    · have f0 := (st_no [102, 105] [33] (by decide)).1; have f1 := (st_no [102, 105] [123] (by decide)).1; have f2 := (st_no [102, 105] [125] (by decide)).1; have f3 := (st_no [102, 105] [99, 97, 115, 101] (by decide)).1; have f4 := (st_no [102, 105] [100, 111] (by decide)).1; have f5 := (st_no [102, 105] [100, 111, 110, 101] (by decide)).1; have f6 := (st_no [102, 105] [101, 108, 105, 102] (by decide)).1; have f7 := (st_no [102, 105] [101, 108, 115, 101] (by decide)).1; have f8 := (st_no [102, 105] [101, 115, 97, 99] (by decide)).1; have f9 := (st_yes [102, 105]).1
      go_enter Try.func12, Try.ntmps12
      go_wp2
      go_ret
      exact ⟨rfl, rfl⟩
    · have f0 := (st_no [102, 111, 114] [33] (by decide)).1; have f1 := (st_no [102, 111, 114] [123] (by decide)).1; have f2 := (st_no [102, 111, 114] [125] (by decide)).1; have f3 := (st_no [102, 111, 114] [99, 97, 115, 101] (by decide)).1; have f4 := (st_no [102, 111, 114] [100, 111] (by decide)).1; have f5 := (st_no [102, 111, 114] [100, 111, 110, 101] (by decide)).1; have f6 := (st_no [102, 111, 114] [101, 108, 105, 102] (by decide)).1; have f7 := (st_no [102, 111, 114] [101, 108, 115, 101] (by decide)).1; have f8 := (st_no [102, 111, 114] [101, 115, 97, 99] (by decide)).1; have f9 := (st_no [102, 111, 114] [102, 105] (by decide)).1; have f10 := (st_yes [102, 111, 114]).1
      go_enter Try.func12, Try.ntmps12
      go_wp2
      go_ret
      exact ⟨rfl, rfl⟩
    · have f0 := (st_no [105, 102] [33] (by decide)).1; have f1 := (st_no [105, 102] [123] (by decide)).1; have f2 := (st_no [105, 102] [125] (by decide)).1; have f3 := (st_no [105, 102] [99, 97, 115, 101] (by decide)).1; have f4 := (st_no [105, 102] [100, 111] (by decide)).1; have f5 := (st_no [105, 102] [100, 111, 110, 101] (by decide)).1; have f6 := (st_no [105, 102] [101, 108, 105, 102] (by decide)).1; have f7 := (st_no [105, 102] [101, 108, 115, 101] (by decide)).1; have f8 := (st_no [105, 102] [101, 115, 97, 99] (by decide)).1; have f9 := (st_no [105, 102] [102, 105] (by decide)).1; have f10 := (st_no [105, 102] [102, 111, 114] (by decide)).1; have f11 := (st_yes [105, 102]).1
      go_enter Try.func12, Try.ntmps12
      go_wp2
      go_ret
      exact ⟨rfl, rfl⟩
    · have f0 := (st_no [105, 110] [33] (by decide)).1; have f1 := (st_no [105, 110] [123] (by decide)).1; have f2 := (st_no [105, 110] [125] (by decide)).1; have f3 := (st_no [105, 110] [99, 97, 115, 101] (by decide)).1; have f4 := (st_no [105, 110] [100, 111] (by decide)).1; have f5 := (st_no [105, 110] [100, 111, 110, 101] (by decide)).1; have f6 := (st_no [105, 110] [101, 108, 105, 102] (by decide)).1; have f7 := (st_no [105, 110] [101, 108, 115, 101] (by decide)).1; have f8 := (st_no [105, 110] [101, 115, 97, 99] (by decide)).1; have f9 := (st_no [105, 110] [102, 105] (by decide)).1; have f10 := (st_no [105, 110] [102, 111, 114] (by decide)).1; have f11 := (st_no [105, 110] [105, 102] (by decide)).1; have f12 := (st_yes [105, 110]).1
      go_enter Try.func12, Try.ntmps12
      go_wp2
      go_ret
      exact ⟨rfl, rfl⟩
    · have f0 := (st_no [116, 104, 101, 110] [33] (by decide)).1; have f1 := (st_no [116, 104, 101, 110] [123] (by decide)).1; have f2 := (st_no [116, 104, 101, 110] [125] (by decide)).1; have f3 := (st_no [116, 104, 101, 110] [99, 97, 115, 101] (by decide)).1; have f4 := (st_no [116, 104, 101, 110] [100, 111] (by decide)).1; have f5 := (st_no [116, 104, 101, 110] [100, 111, 110, 101] (by decide)).1; have f6 := (st_no [116, 104, 101, 110] [101, 108, 105, 102] (by decide)).1; have f7 := (st_no [116, 104, 101, 110] [101, 108, 115, 101] (by decide)).1; have f8 := (st_no [116, 104, 101, 110] [101, 115, 97, 99] (by decide)).1; have f9 := (st_no [116, 104, 101, 110] [102, 105] (by decide)).1; have f10 := (st_no [116, 104, 101, 110] [102, 111, 114] (by decide)).1; have f11 := (st_no [116, 104, 101, 110] [105, 102] (by decide)).1; have f12 := (st_no [116, 104, 101, 110] [105, 110] (by decide)).1; have f13 := (st_yes [116, 104, 101, 110]).1
      go_enter Try.func12, Try.ntmps12
      go_wp2
      go_ret
      exact ⟨rfl, rfl⟩
    · have f0 := (st_no [117, 110, 116, 105, 108] [33] (by decide)).1; have f1 := (st_no [117, 110, 116, 105, 108] [123] (by decide)).1; have f2 := (st_no [117, 110, 116, 105, 108] [125] (by decide)).1; have f3 := (st_no [117, 110, 116, 105, 108] [99, 97, 115, 101] (by decide)).1; have f4 := (st_no [117, 110, 116, 105, 108] [100, 111] (by decide)).1; have f5 := (st_no [117, 110, 116, 105, 108] [100, 111, 110, 101] (by decide)).1; have f6 := (st_no [117, 110, 116, 105, 108] [101, 108, 105, 102] (by decide)).1; have f7 := (st_no [117, 110, 116, 105, 108] [101, 108, 115, 101] (by decide)).1; have f8 := (st_no [117, 110, 116, 105, 108] [101, 115, 97, 99] (by decide)).1; have f9 := (st_no [117, 110, 116, 105, 108] [102, 105] (by decide)).1; have f10 := (st_no [117, 110, 116, 105, 108] [102, 111, 114] (by decide)).1; have f11 := (st_no [117, 110, 116, 105, 108] [105, 102] (by decide)).1; have f12 := (st_no [117, 110, 116, 105, 108] [105, 110] (by decide)).1; have f13 := (st_no [117, 110, 116, 105, 108] [116, 104, 101, 110] (by decide)).1; have f14 := (st_yes [117, 110, 116, 105, 108]).1
      go_enter Try.func12, Try.ntmps12
      go_wp2
      go_ret
      exact ⟨rfl, rfl⟩
    · have f0 := (st_no [119, 104, 105, 108, 101] [33] (by decide)).1; have f1 := (st_no [119, 104, 105, 108, 101] [123] (by decide)).1; have f2 := (st_no [119, 104, 105, 108, 101] [125] (by decide)).1; have f3 := (st_no [119, 104, 105, 108, 101] [99, 97, 115, 101] (by decide)).1; have f4 := (st_no [119, 104, 105, 108, 101] [100, 111] (by decide)).1; have f5 := (st_no [119, 104, 105, 108, 101] [100, 111, 110, 101] (by decide)).1; have f6 := (st_no [119, 104, 105, 108, 101] [101, 108, 105, 102] (by decide)).1; have f7 := (st_no [119, 104, 105, 108, 101] [101, 108, 115, 101] (by decide)).1; have f8 := (st_no [119, 104, 105, 108, 101] [101, 115, 97, 99] (by decide)).1; have f9 := (st_no [119, 104, 105, 108, 101] [102, 105] (by decide)).1; have f10 := (st_no [119, 104, 105, 108, 101] [102, 111, 114] (by decide)).1; have f11 := (st_no [119, 104, 105, 108, 101] [105, 102] (by decide)).1; have f12 := (st_no [119, 104, 105, 108, 101] [105, 110] (by decide)).1; have f13 := (st_no [119, 104, 105, 108, 101] [116, 104, 101, 110] (by decide)).1; have f14 := (st_no [119, 104, 105, 108, 101] [117, 110, 116, 105, 108] (by decide)).1; have f15 := (st_yes [119, 104, 105, 108, 101]).1
      go_enter Try.func12, Try.ntmps12
      go_wp2
      go_ret
      exact ⟨rfl, rfl⟩
  · rw [show isRes t = false by simpa using hr]
    obtain ⟨g0, -⟩ := st_no t [33] (by rintro rfl; exact hr (by decide))
    obtain ⟨g1, -⟩ := st_no t [123] (by rintro rfl; exact hr (by decide))
    obtain ⟨g2, -⟩ := st_no t [125] (by rintro rfl; exact hr (by decide))
    obtain ⟨g3, -⟩ := st_no t [99, 97, 115, 101] (by rintro rfl; exact hr (by decide))
    obtain ⟨g4, -⟩ := st_no t [100, 111] (by rintro rfl; exact hr (by decide))
    obtain ⟨g5, -⟩ := st_no t [100, 111, 110, 101] (by rintro rfl; exact hr (by decide))
    obtain ⟨g6, -⟩ := st_no t [101, 108, 105, 102] (by rintro rfl; exact hr (by decide))
    obtain ⟨g7, -⟩ := st_no t [101, 108, 115, 101] (by rintro rfl; exact hr (by decide))
    obtain ⟨g8, -⟩ := st_no t [101, 115, 97, 99] (by rintro rfl; exact hr (by decide))
    obtain ⟨g9, -⟩ := st_no t [102, 105] (by rintro rfl; exact hr (by decide))
    obtain ⟨g10, -⟩ := st_no t [102, 111, 114] (by rintro rfl; exact hr (by decide))
    obtain ⟨g11, -⟩ := st_no t [105, 102] (by rintro rfl; exact hr (by decide))
    obtain ⟨g12, -⟩ := st_no t [105, 110] (by rintro rfl; exact hr (by decide))
    obtain ⟨g13, -⟩ := st_no t [116, 104, 101, 110] (by rintro rfl; exact hr (by decide))
    obtain ⟨g14, -⟩ := st_no t [117, 110, 116, 105, 108] (by rintro rfl; exact hr (by decide))
    obtain ⟨g15, -⟩ := st_no t [119, 104, 105, 108, 101] (by rintro rfl; exact hr (by decide))
    go_enter Try.func12, Try.ntmps12
    go_wp2
    go_ret
    exact ⟨rfl, rfl⟩
theorem wl_snoc (l : List Bs) (i : Nat) (h : i < l.length) : wl (l.take (i + 1)) = wl (l.take i) + nres (l[i]) := by
  rw [List.take_succ_eq_append_getElem h, wl_app]; simp [wl]
theorem nres_le (t : Bs) : nres t ≤ 1 := by unfold nres; split <;> omega
theorem wl_le (l : List Bs) : wl l ≤ l.length := by
  induction l with
  | nil => exact Nat.le_refl _
  | cons a r ih =>
    have := nres_le a
    have e : wl (a :: r) = nres a + wl r := by simp [wl]
    rw [e, List.length_cons]; omega
set_option maxHeartbeats 4000000 in
theorem rows_any (ao : Option Addr) (cap : Nat) (l : List Bs) (W : World) (hl : l.length ≤ 1000) (h : ∀ (i : Nat) (x : Bs), l[i]? = some x → ∃ g, ao = some ⟨g, 0, none⟩ ∧ W.cell? ⟨g, i, none⟩ = some (.string (st x))) :
    Calls Try.prog 13 #[.slice ao l.length cap] W fun e w' => e = .returned (.int .i64 (wl l)) ∧ w' = W := by
  have HR := Lib.hid resv_any
  have H := Lib.hid h
  have HW := Lib.hid (wl_snoc l)
  have hwl := fun i => wl_le (l.take i)
  clear h
  go_enter Try.func13, Try.ntmps13
  go_wp2
  go_loop [3, 4, 5] (fun nv iv _ => ∃ i : Nat, iv = .int .i64 i ∧ i ≤ l.length ∧ nv = .int .i64 (wl (l.take i) : Nat)) (fun _ iv _ => l.length - (intOf iv).toNat)
  case atStart => exact ⟨0, rfl, Nat.zero_le _, rfl⟩
  case round =>
    obtain ⟨i, rfl, hi, rfl⟩ := hrel
    by_cases hlt : i < l.length
    · obtain ⟨g, rfl, hc⟩ := H.out i _ (List.getElem?_eq_getElem hlt)
      have hk : wl (l.take i) ≤ 1000 := by have := hwl i; rw [List.length_take] at this; omega
      have hw := HW.out i hlt
      generalize l[i] = x at *
      generalize wl (l.take i) = k at *
      clear hwl
      by_cases hx : isRes x = true
      · have hn : nres x = 0 := by unfold nres; rw [if_pos hx]
        have HX := Lib.hid hx
        clear hx
        go_wp2_with (go_at_call 12; (with_reducible refine (HR.out x _).mono ?_); rintro e w1 ⟨rfl, rfl⟩; rw [HX.out])
        go_round
        case rel => exact ⟨i + 1, by go_num, hlt, by rw [hw, hn]; go_num⟩
        case measure => simp [intOf]; omega
      · have hn : nres x = 1 := by unfold nres; rw [if_neg hx]
        have hx0 : isRes x = false := by cases h : isRes x with | true => exact absurd h hx | false => rfl
        have HX := Lib.hid hx0
        clear hx hx0
        go_wp2_with (go_at_call 12; (with_reducible refine (HR.out x _).mono ?_); rintro e w1 ⟨rfl, rfl⟩; rw [HX.out])
        go_round
        case rel => exact ⟨i + 1, by go_num, hlt, by rw [hw, hn]; go_num⟩
        case measure => simp [intOf]; omega
    · obtain rfl : i = l.length := by omega
      rw [List.take_length] at *
      have hwl0 := wl_le l
      go_wp2
      go_ret
      exact ⟨rfl, rfl⟩
end Go.Proofs.Ytoahgblgchmclaa
