/- Contracts of the program's pipe: New, place, count, Join, Leave, State. -/
import Derived.Test.YthgjhpiajjamnaaKB
namespace Go.Proofs.Ythgjhpiajjamnaa
open Go.RowKit
set_option linter.unusedVariables false
set_option linter.unusedSimpArgs false
variable {W W' : World} {P : Nat} {r : Nat → UInt8} {f n rd wr : Nat}

theorem Fr.one (w : World) (P o : Nat) (u : Value) : Fr (· = P) w (w.setCell ⟨P, o, none⟩ u) := (Fr.refl _ _).setCell (p := ⟨P, o, none⟩) (.inl (by simp)) u
theorem place_any (k : Nat) (hk : k ≤ 128) (w : World) (h : PI w P r f n rd wr) :
    Calls Try.prog 19 #[.pointer (some ⟨P, 0, none⟩), .int .i64 k] w fun e w' => e = .returned (.int .i64 ((f + k) % 128 : Nat)) ∧ w = w' := by
  obtain ⟨-, -, c2, -⟩ := h.cells
  have hf := h.hf
  clear h
  go_enter Try.func19, Try.ntmps19
  go_wp2
  go_ret
  exact ⟨ret_int (by omega), rfl⟩
theorem count_any (b : Bool) (w : World) :
    Calls Try.prog 18 #[.pointer (some ⟨P, 0, none⟩), .bool b] w fun e w' => e = .returned (.pointer (some ⟨P, if b then 1 else 0, none⟩)) ∧ w = w' := by
  cases b
  all_goals
    go_enter Try.func18, Try.ntmps18
    go_wp2
    go_ret
    exact ⟨rfl, rfl⟩
def zeroR : Nat → UInt8 := fun _ => 0
theorem zeroP : ∃ Z : Array Value, Z.size = 132 ∧ (∀ w, (zeroValue 48).run Try.prog w = .ok (.agg Z) w) ∧ ∀ i, i < 132 → Z[i]? = some (pipeF zeroR 0 0 0 0 i) := by
  refine ⟨((List.range 132).map (pipeF zeroR 0 0 0 0)).toArray, by simp, fun w => by kernel_rfl, fun i hi => ?_⟩
  rw [List.getElem?_toArray, List.getElem?_map, List.getElem?_range hi]
  rfl
theorem pnew_any (w : World) :
    Calls Try.prog 7 #[] w fun e w' => e = .returned (.pointer (some ⟨w.heap.size, 0, none⟩)) ∧ PI w' w.heap.size zeroR 0 0 1 1 ∧ Below w.heap.size w w' := by
  obtain ⟨Z, hz, h1, h2⟩ := zeroP
  have HZ := Lib.hid hz
  have H2 := Lib.hid h2
  have z1 : ¬ Z = #[] := fun e => by rw [e] at hz; simp at hz
  have z2 : ¬ Z.size < 2 := by omega
  have z3 : ((Z.setIfInBounds 0 (.int .i64 1)).setIfInBounds 1 (.int .i64 1)).size = 132 := by simp [hz]
  have Z3 := Lib.hid z3
  clear hz h2 z3
  go_enter Try.func7, Try.ntmps7
  go_wp2
  go_ret
  have hr := World.rowIs_alloc w ((Z.setIfInBounds 0 (.int .i64 1)).setIfInBounds 1 (.int .i64 1)) 48 (pipeF zeroR 0 0 1 1) (fun i hi => by
    rw [Z3.out] at hi
    have := H2.out i hi
    by_cases e1 : i = 1
    · subst e1; simp [HZ.out]; rfl
    · rw [Array.getElem?_setIfInBounds_ne (Ne.symm e1)]
      by_cases e0 : i = 0
      · subst e0; simp [HZ.out]; rfl
      · rw [Array.getElem?_setIfInBounds_ne (Ne.symm e0), this]
        unfold pipeF
        simp [e0, e1])
  rw [Z3.out] at hr
  exact ⟨rfl, ⟨hr, by decide, by decide⟩, (Below.refl _ _).alloc (Nat.le_refl _) _⟩
theorem join_any (b : Bool) (w : World) (h : PI w P r f n rd wr) (h1 : rd < 1000000) (h2 : wr < 1000000) :
    Calls Try.prog 9 #[.pointer (some ⟨P, 0, none⟩), .bool b] w fun e w' => e = .returned (.tuple #[]) ∧ PI w' P r f n (if b then rd else rd + 1) (if b then wr + 1 else wr) ∧ Fr (· = P) w w' := by
  obtain ⟨c0, c1, -, -⟩ := h.cells
  have f0 := h.frozen 0
  have f1 := h.frozen 1
  have H := Lib.hid h
  have HC := fun w => count_any (P := P) b w
  clear h
  cases b
  all_goals
    simp only [Bool.false_eq_true, if_true, if_false] at HC
    go_enter Try.func9, Try.ntmps9
    go_wp2_with (go_at_call 18; refine (HC _).mono ?_; rintro e w' ⟨rfl, rfl⟩)
    refine bodyPost_end (results_none rfl _ _ _) rfl ?_
  · exact ⟨rfl, by simpa using H.out.setReaders (rd + 1), Fr.one _ _ _ _⟩
  · exact ⟨rfl, by simpa using H.out.setWriters (wr + 1), Fr.one _ _ _ _⟩
theorem leave_any (b : Bool) (w : World) (h : PI w P r f n rd wr) (h1 : rd < 1000000) (h2 : wr < 1000000) :
    Calls Try.prog 11 #[.pointer (some ⟨P, 0, none⟩), .bool b] w fun e w' => e = .returned (.bool (decide (0 < if b then wr else rd))) ∧ PI w' P r f n (if b then rd else rd - 1) (if b then wr - 1 else wr) ∧ Fr (· = P) w w' := by
  obtain ⟨c0, c1, -, -⟩ := h.cells
  have f0 := h.frozen 0
  have f1 := h.frozen 1
  have H := Lib.hid h
  have HC := fun w => count_any (P := P) b w
  clear h
  cases b
  · simp only [Bool.false_eq_true, if_true, if_false] at HC ⊢
    by_cases h0 : 0 < rd
    · obtain ⟨k, rfl⟩ : ∃ k, rd = k + 1 := ⟨rd - 1, by omega⟩
      clear h0
      go_enter Try.func11, Try.ntmps11
      go_wp2_with (go_at_call 18; refine (HC _).mono ?_; rintro e w' ⟨rfl, rfl⟩)
      go_ret
      exact ⟨ret_bool (by simp), by simpa using H.out.setReaders k, Fr.one _ _ _ _⟩
    · obtain rfl : rd = 0 := by omega
      clear h0
      go_enter Try.func11, Try.ntmps11
      go_wp2_with (go_at_call 18; refine (HC _).mono ?_; rintro e w' ⟨rfl, rfl⟩)
      go_ret
      exact ⟨ret_bool (by simp), by simpa using H.out, Fr.refl _ _⟩
  · simp only [Bool.false_eq_true, if_true, if_false] at HC ⊢
    by_cases h0 : 0 < wr
    · obtain ⟨k, rfl⟩ : ∃ k, wr = k + 1 := ⟨wr - 1, by omega⟩
      clear h0
      go_enter Try.func11, Try.ntmps11
      go_wp2_with (go_at_call 18; refine (HC _).mono ?_; rintro e w' ⟨rfl, rfl⟩)
      go_ret
      exact ⟨ret_bool (by simp), by simpa using H.out.setWriters k, Fr.one _ _ _ _⟩
    · obtain rfl : wr = 0 := by omega
      clear h0
      go_enter Try.func11, Try.ntmps11
      go_wp2_with (go_at_call 18; refine (HC _).mono ?_; rintro e w' ⟨rfl, rfl⟩)
      go_ret
      exact ⟨ret_bool (by simp), by simpa using H.out, Fr.refl _ _⟩
theorem state_any (w : World) (h : PI w P r f n rd wr) :
    Calls Try.prog 17 #[.pointer (some ⟨P, 0, none⟩)] w fun e w' => e = .returned (.tuple #[.int .i64 rd, .int .i64 wr, .int .i64 n]) ∧ Fr (fun _ => False) w w' := by
  obtain ⟨c0, c1, -, c3⟩ := h.cells
  clear h
  go_enter Try.func17, Try.ntmps17
  go_wp2
  go_quiet (fail)
  go_wp2
  refine bodyPost_ret (v := .tuple #[.int .i64 rd, .int .i64 wr, .int .i64 n]) (by simp [results, Try.results17, go_sem]) rfl ⟨rfl, ?_⟩
  exact (Fr.refl _ _).drewN _
end Go.Proofs.Ythgjhpiajjamnaa
