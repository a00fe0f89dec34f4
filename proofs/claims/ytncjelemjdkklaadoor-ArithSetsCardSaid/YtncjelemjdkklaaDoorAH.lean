/- The program's parser in memory: contracts of enter, leave, next, take, expect. -/
import Derived.Test.YtncjelemjdkklaaDoorAG
namespace Go.Proofs.YtncjelemjdkklaaDoor
open Go.RowKit
set_option linter.unusedVariables false
set_option linter.unusedSimpArgs false
/-- the parser: what is left, and how many rules are open. -/
def PT (W : World) (pb o : Nat) (ts : List Bs) : Prop := ∃ tb off cap, W.heap[pb]? = some (.cells #[.slice (some ⟨tb, off, none⟩) ts.length cap, .int .i64 o] 53 (0, 0)) ∧
  ts.length ≤ cap ∧ cap ≤ maxLen ∧ tb < W.heap.size ∧ tb ≠ pb ∧ (∀ i t, ts[i]? = some t → W.cell? ⟨tb, off + i, none⟩ = some (cellS t)) ∧ (∀ t ∈ ts, t ≠ [] ∧ t.length ≤ 256) ∧ ts.length ≤ 256 ∧ o ≤ 1000
/-- no more than that it is there. -/
def PW (W : World) (pb : Nat) : Prop := ∃ v x, W.heap[pb]? = some (.cells #[v, .int .i64 x] 53 (0, 0))
section
variable {W W' : World} {pb o : Nat} {ts : List Bs}
theorem PT.weak (h : PT W pb o ts) : PW W pb := by
  obtain ⟨tb, off, cap, h1, -⟩ := h
  exact ⟨_, _, h1⟩
theorem PT.lt (h : PT W pb o ts) : pb < W.heap.size := by
  obtain ⟨tb, off, cap, h1, -⟩ := h
  exact heap_lt h1
theorem PW.lt (h : PW W pb) : pb < W.heap.size := by
  obtain ⟨v, x, h1⟩ := h
  exact heap_lt h1
theorem PT.fr {S : Nat → Prop} (h : PT W pb o ts) (f : Fr S W W') (hs : ∀ k, k < W.heap.size → ¬ S k) : PT W' pb o ts := by
  obtain ⟨tb, off, cap, h1, h2, h3, h4, h5, h6, h7, h8, h9⟩ := h
  exact ⟨tb, off, cap, (f.block pb (heap_lt h1) (hs _ (heap_lt h1))).trans h1, h2, h3, Nat.lt_of_lt_of_le h4 f.size, h5, fun i t ht => f.cell (h6 i t ht) (hs _ h4), h7, h8, h9⟩
theorem PW.fr {S : Nat → Prop} (h : PW W pb) (f : Fr S W W') (hs : ∀ k, k < W.heap.size → ¬ S k) : PW W' pb := by
  obtain ⟨v, x, h1⟩ := h
  exact ⟨v, x, (f.block pb (heap_lt h1) (hs _ (heap_lt h1))).trans h1⟩
theorem PT.bel (h : PT W pb o ts) (f : Below W.heap.size W W') : PT W' pb o ts := h.fr (S := fun _ => False) (Fr.of_below f) (fun _ _ => id)
/-- one cell of the parser is written. -/
theorem PT.other (h : ∀ i t, ts[i]? = some t → W.cell? ⟨o, i, none⟩ = some (cellS t)) (hne : o ≠ pb) (j : Nat) (u : Value) : ∀ i t, ts[i]? = some t → (W.setCell ⟨pb, j, none⟩ u).cell? ⟨o, i, none⟩ = some (cellS t) :=
  fun i t ht => (Fr.one W pb j u).cell (h i t ht) hne
theorem PT.open (h : PT W pb o ts) (q : Nat) (hq : q ≤ 1000) : PT (W.setCell ⟨pb, 1, none⟩ (.int .i64 q)) pb q ts := by
  obtain ⟨tb, off, cap, h1, h2, h3, h4, h5, h6, h7, h8, h9⟩ := h
  exact ⟨tb, off, cap, heap_set h1 _ _, h2, h3, (by simpa [World.setCell] using h4), h5, fun i t ht => (Fr.one W pb 1 _).cell (h6 i t ht) h5, h7, h8, hq⟩
theorem PT.cells (h : PT W pb o ts) : ∃ tb off cap, W.cell? ⟨pb, 0, none⟩ = some (.slice (some ⟨tb, off, none⟩) ts.length cap) ∧ W.cell? ⟨pb, 1, none⟩ = some (.int .i64 o) ∧ (∀ j, W.frozen? ⟨pb, j, none⟩ = false) ∧ ts.length ≤ cap ∧ cap ≤ maxLen ∧
    (∀ i t, ts[i]? = some t → W.cell? ⟨tb, off + i, none⟩ = some (cellS t)) ∧ ts.length ≤ 256 ∧ o ≤ 1000 ∧
    (∀ t r, ts = t :: r → PT (W.setCell ⟨pb, 0, none⟩ (.slice (some ⟨tb, off + 1, none⟩) r.length (cap - 1))) pb o r ∧ (cap - 1 = 0 → PT (W.setCell ⟨pb, 0, none⟩ (.slice (some ⟨tb, off, none⟩) r.length 0)) pb o r)) := by
  obtain ⟨tb, off, cap, h1, h2, h3, h4, h5, h6, h7, h8, h9⟩ := h
  refine ⟨tb, off, cap, ?_, ?_, fun j => Lib.frozen_of_heap h1 j, h2, h3, h6, h8, h9, ?_⟩
  · rw [Lib.cell_of_heap h1]; rfl
  · rw [Lib.cell_of_heap h1]; rfl
  · rintro t r rfl
    simp only [List.length_cons] at h2 h8
    refine ⟨⟨tb, off + 1, cap - 1, heap_set h1 _ _, by omega, by omega, (by simpa [World.setCell] using h4), h5, fun i t ht => ?_, fun t ht => h7 t (List.mem_cons_of_mem _ ht), by omega, h9⟩, fun hc => ?_⟩
    rotate_left
    · have hr : r = [] := List.length_eq_zero_iff.1 (by omega)
      subst hr
      exact ⟨tb, off, 0, heap_set h1 _ _, Nat.le_refl _, Nat.zero_le _, (by simpa [World.setCell] using h4), h5, fun i t ht => (by simp at ht), fun t ht => (by cases ht), Nat.zero_le _, h9⟩
    have := (Fr.one W pb 0 (.slice (some ⟨tb, off + 1, none⟩) r.length (cap - 1))).cell (h6 (i + 1) t (by simpa using ht)) h5
    rw [show off + 1 + i = off + (i + 1) by omega]
    exact this
end
theorem enter_any {W : World} {pb o : Nat} {ts : List Bs} (h : PT W pb o ts) (ho : o ≤ 24) :
    Calls Tryd.prog 20 #[.pointer (some ⟨pb, 0, none⟩)] W fun e w' => e = .returned (.tuple #[]) ∧ PT w' pb (o + 1) ts ∧ Fr (· = pb) W w' := by
  obtain ⟨tb, off, cap, c0, c1, fz, -, -, -, -, -, -⟩ := h.cells
  have f1 := fz 1
  have HP := Lib.hid (h.open (o + 1) (by omega))
  clear h fz
  go_enter Tryd.func20, Tryd.ntmps20
  go_wp2
  refine bodyPost_end (results_none rfl _ _ _) rfl ?_
  exact ⟨rfl, HP.out, Fr.one _ _ _ _⟩
theorem enter_deep {W : World} {pb o : Nat} {ts : List Bs} (h : PT W pb o ts) (ho : 24 < o) :
    Calls Tryd.prog 20 #[.pointer (some ⟨pb, 0, none⟩)] W fun e w' => e = .panicked bad ∧ w' = W := by
  obtain ⟨tb, off, cap, c0, c1, fz, -, -, -, -, -, -⟩ := h.cells
  clear h fz
  go_enter Tryd.func20, Tryd.ntmps20
  go_wp2
  exact ⟨rfl, rfl, rfl⟩
theorem leave_any {W : World} {pb o : Nat} {ts : List Bs} (h : PT W pb (o + 1) ts) (u : FrameMode) :
    CallsD Tryd.prog 21 #[.pointer (some ⟨pb, 0, none⟩)] u W fun e u' w' => u' = u ∧ e = .returned (.tuple #[]) ∧ PT w' pb o ts ∧ Fr (· = pb) W w' := by
  obtain ⟨tb, off, cap, c0, c1, fz, -, -, -, -, ho, -⟩ := h.cells
  have f1 := fz 1
  have HP := Lib.hid (h.open o (by omega))
  clear h fz
  go_enter_d Tryd.func21, Tryd.ntmps21
  go_wp2
  refine bodyPost_end (results_none rfl _ _ _) rfl ?_
  exact ⟨rfl, HP.out, Fr.one _ _ _ _⟩
theorem leave_weak {W : World} {pb : Nat} (h : PW W pb) (u : FrameMode) :
    CallsD Tryd.prog 21 #[.pointer (some ⟨pb, 0, none⟩)] u W fun e u' w' => u' = u ∧ e = .returned (.tuple #[]) ∧ PW w' pb ∧ Fr (· = pb) W w' := by
  obtain ⟨v, x, h1⟩ := h
  have c1 : W.cell? ⟨pb, 1, none⟩ = some (.int .i64 x) := by rw [Lib.cell_of_heap h1]; rfl
  have f1 : W.frozen? ⟨pb, 1, none⟩ = false := Lib.frozen_of_heap h1 1
  have HP := Lib.hid (fun y => (⟨v, y, heap_set h1 1 (.int .i64 y)⟩ : PW (W.setCell ⟨pb, 1, none⟩ (.int .i64 y)) pb))
  clear h1
  go_enter_d Tryd.func21, Tryd.ntmps21
  go_wp2
  refine bodyPost_end (results_none rfl _ _ _) rfl ?_
  exact ⟨rfl, HP.out _, Fr.one _ _ _ _⟩
theorem next_any {W : World} {pb o : Nat} {ts : List Bs} (h : PT W pb o ts) :
    Calls Tryd.prog 37 #[.pointer (some ⟨pb, 0, none⟩)] W fun e w' => e = .returned (.string (st (ts.headD []))) ∧ w' = W := by
  obtain ⟨tb, off, cap, c0, c1, fz, hcap, hmax, hcell, h256, -, -⟩ := h.cells
  unfold maxLen at hmax
  cases ts with
  | nil =>
    clear h fz hcell
    rw [List.length_nil] at c0
    go_enter Tryd.func37, Tryd.ntmps37
    go_wp2
    go_ret
    exact ⟨rfl, rfl⟩
  | cons t r =>
    have k0 := hcell 0 t rfl
    rw [Nat.add_zero] at k0
    unfold cellS at k0
    rw [List.length_cons] at *
    clear h fz hcell
    generalize r.length = n at *
    go_enter Tryd.func37, Tryd.ntmps37
    go_wp2
    go_ret
    exact ⟨rfl, rfl⟩
theorem take_any {W : World} {pb o : Nat} {t : Bs} {r : List Bs} (h : PT W pb o (t :: r)) :
    Calls Tryd.prog 25 #[.pointer (some ⟨pb, 0, none⟩)] W fun e w' => e = .returned (.string (st t)) ∧ PT w' pb o r ∧ Fr (· = pb) W w' := by
  obtain ⟨tb, off, cap, c0, c1, fz, hcap, hmax, hcell, h256, -, hP⟩ := h.cells
  unfold maxLen at hmax
  have k0 := hcell 0 t rfl
  have HP := Lib.hid (hP t r rfl).1
  have HP0 := Lib.hid (hP t r rfl).2
  rw [Nat.add_zero] at k0
  unfold cellS at k0
  have f0 := fz 0
  rw [List.length_cons] at *
  clear h fz hcell hP
  generalize hn : r.length = n at *
  clear hn
  go_enter Tryd.func25, Tryd.ntmps25
  go_wp2
  all_goals
    go_ret
    first
      | exact ⟨rfl, HP.out, Fr.one _ _ _ _⟩
      | exact ⟨rfl, HP0.out (by omega), Fr.one _ _ _ _⟩
theorem take_none {W : World} {pb o : Nat} (h : PT W pb o []) :
    Calls Tryd.prog 25 #[.pointer (some ⟨pb, 0, none⟩)] W fun e w' => e = .panicked bad ∧ w' = W := by
  obtain ⟨tb, off, cap, c0, c1, fz, hcap, hmax, hcell, h256, -, hP⟩ := h.cells
  clear h fz hcell hP
  rw [List.length_nil] at c0
  go_enter Tryd.func25, Tryd.ntmps25
  go_wp2
  exact ⟨rfl, rfl, rfl⟩
theorem expect_any {W : World} {pb o : Nat} {c t : Bs} {r : List Bs} (h : PT W pb o (t :: r)) (hc : t = c) :
    Calls Tryd.prog 38 #[.pointer (some ⟨pb, 0, none⟩), .string (st c)] W fun e w' => e = .returned (.tuple #[]) ∧ PT w' pb o r ∧ Fr (· = pb) W w' := by
  have HT := Lib.hid (take_any h)
  subst hc
  have g : ((st t).toList != (st t).toList) = false := by simp
  clear h
  generalize st t = x at *
  go_enter Tryd.func38, Tryd.ntmps38
  go_wp2_with (go_at_call 25; (with_reducible refine HT.out.mono ?_); rintro e w1 ⟨rfl, hP, hF⟩; have HP := Lib.hid hP; have HF := Lib.hid hF; clear hP hF)
  refine bodyPost_end (results_none rfl _ _ _) rfl ?_
  exact ⟨rfl, HP.out, HF.out⟩
theorem expect_not {W : World} {pb o : Nat} {c : Bs} {ts : List Bs} (h : PT W pb o ts) (hc : ts.head? ≠ some c) :
    Calls Tryd.prog 38 #[.pointer (some ⟨pb, 0, none⟩), .string (st c)] W fun e w' => e = .panicked bad ∧ PW w' pb ∧ Fr (· = pb) W w' := by
  cases ts with
  | nil =>
    have HT := Lib.hid (take_none h)
    have HW := Lib.hid h.weak
    clear h
    generalize st c = x at *
    go_enter Tryd.func38, Tryd.ntmps38
    go_wp2_with (go_at_call 25; (with_reducible refine HT.out.mono ?_); rintro e w1 ⟨rfl, rfl⟩)
    exact ⟨rfl, rfl, HW.out, Fr.refl _ _⟩
  | cons t r =>
    have HT := Lib.hid (take_any h)
    have g : ((st t).toList == (st c).toList) = false := by
      rw [st_toList, st_toList, beq_eq_false_iff_ne]
      intro e
      exact hc (by rw [e]; rfl)
    clear h hc
    generalize st c = x at *
    generalize st t = y at *
    go_enter Tryd.func38, Tryd.ntmps38
    go_wp2_with (go_at_call 25; (with_reducible refine HT.out.mono ?_); rintro e w1 ⟨rfl, hP, hF⟩; have HP := Lib.hid hP; have HF := Lib.hid hF; clear hP hF)
    exact ⟨rfl, rfl, HP.out.weak, HF.out⟩
end Go.Proofs.YtncjelemjdkklaaDoor
