/- Contracts of the program's fits and placeOf. -/
import Derived.Test.YtacohhmhggljhaaHH
import Derived.Deep.RegionHeld3
import Derived.StillTail
import Derived.StillTactics
namespace Go.Proofs.Ytacohhmhggljhaa
open Go.RowKit
set_option linter.unusedVariables false
set_option linter.unusedSimpArgs false
/-- a row of sets in memory. -/
def InRun (W : World) (ao : Option Addr) (run : List (UInt8 → Bool)) : Prop :=
  ∀ k f, run[k]? = some f → ∃ g, ao = some ⟨g, 0, none⟩ ∧ W.cell? ⟨g, k * 4, none⟩ = some (wd f 0) ∧ W.cell? ⟨g, k * 4 + 1, none⟩ = some (wd f 1) ∧ W.cell? ⟨g, k * 4 + 2, none⟩ = some (wd f 2) ∧ W.cell? ⟨g, k * 4 + 3, none⟩ = some (wd f 3)
theorem cell_lt {w : World} {g j : Nat} {v : Value} (hc : w.cell? ⟨g, j, none⟩ = some v) : g < w.heap.size := by
  unfold World.cell? at hc
  cases ho : w.heap[g]? with
  | none => simp [ho] at hc
  | some o => exact (Array.getElem?_eq_some_iff.1 ho).1
theorem below_cell {W W' : World} (hb : Below W.heap.size W W') {g j : Nat} {v : Value} (hc : W.cell? ⟨g, j, none⟩ = some v) : W'.cell? ⟨g, j, none⟩ = some v :=
  (hb.cell (p := ⟨g, j, none⟩) (cell_lt hc)).trans hc
theorem InRun.later {W W' : World} {ao : Option Addr} {run : List (UInt8 → Bool)} (h : InRun W ao run) (hb : Below W.heap.size W W') : InRun W' ao run := fun k f hk => by
  obtain ⟨g, e, c0, c1, c2, c3⟩ := h k f hk
  exact ⟨g, e, below_cell hb c0, below_cell hb c1, below_cell hb c2, below_cell hb c3⟩
theorem drew_below (W : World) : Below W.heap.size W W.drew := (Below.refl _ _).drew
theorem fits_step (run : List (UInt8 → Bool)) (s : ByteArray) (k : Nat) (f : UInt8 → Bool) (hk : run[k]? = some f) (hs : k < s.size) :
    fitsP (run.drop k) (s.data.toList.drop k) = (f s[k] && fitsP (run.drop (k + 1)) (s.data.toList.drop (k + 1))) := by
  obtain ⟨hl, rfl⟩ := List.getElem?_eq_some_iff.1 hk
  rw [List.drop_eq_getElem_cons hl, drop_eq s k hs]; rfl
set_option maxHeartbeats 1000000 in
theorem fits_any (s : ByteArray) (run : List (UInt8 → Bool)) (ao : Option Addr) (cap : Nat) (w : World) (hr : InRun w ao run) (hl : run.length ≤ s.size) (hs : s.size ≤ maxLen) :
    Calls Try.prog 22 #[.slice ao run.length cap, .string s] w fun e w' => e = .returned (.bool (fitsP run s.data.toList)) ∧ Below w.heap.size w w' := by
  unfold maxLen at hs
  go_enter Try.func22, Try.ntmps22
  go_wp2
  go_loopw [5, 8] (fun i c wr => ∃ k : Nat, k ≤ run.length ∧ c = .int .i64 k ∧ fitsP run s.data.toList = fitsP (run.drop k) (s.data.toList.drop k) ∧ InRun wr ao run ∧ Below w.heap.size w wr) (fun _ c _ => run.length - (intOf c).toNat)
  case atStart => exact ⟨0, Nat.zero_le _, rfl, rfl, hr, Below.refl _ _⟩
  case round =>
    obtain ⟨k, hk, rfl, hf, hrun, hb⟩ := hrel
    by_cases hlt : k < run.length
    · have hks : k < s.size := by omega
      obtain ⟨f, hkf⟩ : ∃ f, run[k]? = some f := ⟨_, List.getElem?_eq_getElem hlt⟩
      have hst := fits_step run s k f hkf hks
      obtain ⟨g, rfl, c0, c1, c2, c3⟩ := hrun k f hkf
      have HC := Lib.hid (fun w => (show Calls Try.prog 21 #[.agg #[wd f 0, wd f 1, wd f 2, wd f 3], .int .u8 s[k].toNat] w fun e w' => e = .returned (.bool (f s[k])) ∧ Below w.heap.size w w' from has_any f s[k] w))
      have HR := Lib.hid hrun
      obtain ⟨wo, rfl⟩ : ∃ wo : World, wo = wr := ⟨_, rfl⟩
      cases hfs : f s[k]
      · rw [hfs] at hst HC
        have HF := Lib.hid (show fitsP run s.data.toList = false by rw [hf, hst]; rfl)
        clear hst hf hkf hrun hfs
        unfold wd at c0 c1 c2 c3 HC
        generalize word f 0 = v0 at *
        generalize word f 1 = v1 at *
        generalize word f 2 = v2 at *
        generalize word f 3 = v3 at *
        go_wp2
        go_region_held3 (fun w' => w'.cell? ⟨g, k * 4, none⟩ = some (.int .u64 v0) ∧ w'.cell? ⟨g, k * 4 + 1, none⟩ = some (.int .u64 v1) ∧ w'.cell? ⟨g, k * 4 + 2, none⟩ = some (.int .u64 v2) ∧ w'.cell? ⟨g, k * 4 + 3, none⟩ = some (.int .u64 v3))
          (first | exact ⟨c0, c1, c2, c3⟩ | exact ⟨d0, d1, d2, d3⟩)
          (first
            | (go_at_call 21; (refine (HC.out _).mono ?_); rintro e w7 ⟨rfl, h7⟩; have d0 := below_cell h7 c0; have d1 := below_cell h7 c1; have d2 := below_cell h7 c2; have d3 := below_cell h7 c3))
        all_goals
          have hb7 : Below wo.heap.size wo w7 := (drew_below wo).trans h7
          have hbw : Below w.heap.size w w7 := hb.trans (hb7.mono hb.size)
          go_wp2
          go_ret
          exact ⟨ret_bool HF.out.symm, hbw⟩
      · rw [hfs] at hst HC
        have HF := Lib.hid (show fitsP run s.data.toList = fitsP (run.drop (k + 1)) (s.data.toList.drop (k + 1)) by rw [hf, hst]; rfl)
        clear hst hf hkf hrun hfs
        unfold wd at c0 c1 c2 c3 HC
        generalize word f 0 = v0 at *
        generalize word f 1 = v1 at *
        generalize word f 2 = v2 at *
        generalize word f 3 = v3 at *
        go_wp2
        go_region_held3 (fun w' => w'.cell? ⟨g, k * 4, none⟩ = some (.int .u64 v0) ∧ w'.cell? ⟨g, k * 4 + 1, none⟩ = some (.int .u64 v1) ∧ w'.cell? ⟨g, k * 4 + 2, none⟩ = some (.int .u64 v2) ∧ w'.cell? ⟨g, k * 4 + 3, none⟩ = some (.int .u64 v3))
          (first | exact ⟨c0, c1, c2, c3⟩ | exact ⟨d0, d1, d2, d3⟩)
          (first
            | (go_at_call 21; (refine (HC.out _).mono ?_); rintro e w7 ⟨rfl, h7⟩; have d0 := below_cell h7 c0; have d1 := below_cell h7 c1; have d2 := below_cell h7 c2; have d3 := below_cell h7 c3))
        all_goals
          have hb7 : Below wo.heap.size wo w7 := (drew_below wo).trans h7
          have hbw : Below w.heap.size w w7 := hb.trans (hb7.mono hb.size)
          go_wp2
          go_roundw
          case rel => exact ⟨k + 1, by omega, by go_num, HF.out, HR.out.later hb7, hbw⟩
          case measure => simp [intOf]; omega
    · have HF := Lib.hid (show fitsP run s.data.toList = true by rw [hf, List.drop_of_length_le (by omega)]; rfl)
      obtain rfl : k = run.length := by omega
      clear hf hrun hr
      go_wp2
      go_ret
      exact ⟨ret_bool HF.out.symm, hb⟩
theorem placeI_none {run : List (UInt8 → Bool)} {s : List UInt8} (h : ∀ j, j ≤ s.length → fitsP run (s.drop j) = false) : placeI run s = -1 := by
  unfold placeI; rw [place_none h]
theorem placeI_some {run : List (UInt8 → Bool)} {s : List UInt8} {k : Nat} (hk : k ≤ s.length) (h : fitsP run (s.drop k) = true) (hn : ∀ j, j < k → fitsP run (s.drop j) = false) : placeI run s = k := by
  unfold placeI; rw [place_some hk h hn]
theorem fits_no {run : List (UInt8 → Bool)} {s : List UInt8} (h : s.length < run.length) : fitsP run s = false := by
  rw [Bool.eq_false_iff]; intro e; have := fits_len e; omega
set_option maxHeartbeats 1000000 in
theorem place_any (s : ByteArray) (run : List (UInt8 → Bool)) (ao : Option Addr) (cap : Nat) (w : World) (hr : InRun w ao run) (hl : run.length ≤ 70368744177664) (hs : s.size ≤ 140737488355328) :
    Calls Try.prog 20 #[.slice ao run.length cap, .string s] w fun e w' => e = .returned (.int .i64 (placeI run s.data.toList)) ∧ Below w.heap.size w w' := by
  go_enter Try.func20, Try.ntmps20
  go_wp2
  go_loopw [5] (fun c wr => ∃ k : Nat, k ≤ s.size + 1 ∧ c = .int .i64 k ∧ (∀ j, j < k → fitsP run (s.data.toList.drop j) = false) ∧ InRun wr ao run ∧ Below w.heap.size w wr) (fun c _ => s.size + 1 - (intOf c).toNat)
  case atStart => exact ⟨0, Nat.zero_le _, rfl, fun j hj => absurd hj (Nat.not_lt_zero _), hr, Below.refl _ _⟩
  case round =>
    obtain ⟨k, hk, rfl, hf, hrun, hb⟩ := hrel
    have HF := Lib.hid hf
    by_cases hlt : k + run.length ≤ s.size
    · have he : (s.extract k s.size).size = s.size - k := by simp
      have HC := Lib.hid (show Calls Try.prog 22 #[.slice ao run.length cap, .string (s.extract k s.size)] wr fun e w' => e = .returned (.bool (fitsP run (s.data.toList.drop k))) ∧ Below wr.heap.size wr w' from by
        have := fits_any (s.extract k s.size) run ao cap wr hrun (by rw [he]; omega) (by unfold maxLen; rw [he]; omega)
        rwa [extract_mid, List.take_of_length_le (by simp)] at this)
      have HR := Lib.hid hrun
      clear he hf hrun hr
      cases hfs : fitsP run (s.data.toList.drop k)
      · rw [hfs] at HC
        have HN := Lib.hid (show ∀ j, j < k + 1 → fitsP run (s.data.toList.drop j) = false from fun j hj => by
          rcases Nat.lt_or_ge j k with h | h
          · exact HF.out j h
          · rw [show j = k by omega]; exact hfs)
        clear hfs
        go_wp2_with (go_at_call 22; (with_reducible refine HC.out.mono ?_); rintro e w1 ⟨rfl, hb1⟩)
        go_roundw
        case rel => exact ⟨k + 1, by omega, by go_num, HN.out, HR.out.later hb1, hb.trans (hb1.mono hb.size)⟩
        case measure => simp [intOf]; omega
      · rw [hfs] at HC
        have HP := Lib.hid (placeI_some (run := run) (s := s.data.toList) (by rw [size_len]; omega) hfs HF.out)
        clear hfs
        go_wp2_with (go_at_call 22; (with_reducible refine HC.out.mono ?_); rintro e w1 ⟨rfl, hb1⟩)
        go_ret
        exact ⟨ret_int HP.out.symm, hb.trans (hb1.mono hb.size)⟩
    · have HP := Lib.hid (placeI_none (run := run) (s := s.data.toList) fun j hj => by
        rcases Nat.lt_or_ge j k with h | h
        · exact HF.out j h
        · exact fits_no (by rw [size_len] at hj; rw [List.length_drop, size_len]; omega))
      clear hf hrun hr
      go_wp2
      go_ret
      exact ⟨ret_int HP.out.symm, hb⟩
end Go.Proofs.Ytacohhmhggljhaa
