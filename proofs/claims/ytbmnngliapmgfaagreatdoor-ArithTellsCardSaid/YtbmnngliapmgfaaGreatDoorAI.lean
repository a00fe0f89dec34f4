/- The program's parser in memory: contracts of enter, leave, next, take, expect. -/
/- Nodes as values; the loop over a level's operators. -/
import Derived.Test.YtbmnngliapmgfaaGreatDoorAG
namespace Go.Proofs.YtbmnngliapmgfaaGreatDoor
open Go.RowKit
set_option linter.unusedVariables false
set_option linter.unusedSimpArgs false
/-- the parser: what is left, and how many rules are open. -/
def PT (W : World) (pb o : Nat) (ts : List Bs) : Prop := ∃ tb off cap, W.heap[pb]? = some (.cells #[.slice (some ⟨tb, off, none⟩) ts.length cap, .int .i64 o] 56 (0, 0)) ∧
  ts.length ≤ cap ∧ cap ≤ maxLen ∧ tb < W.heap.size ∧ tb ≠ pb ∧ (∀ i t, ts[i]? = some t → W.cell? ⟨tb, off + i, none⟩ = some (cellS t)) ∧ (∀ t ∈ ts, t ≠ [] ∧ t.length ≤ 256) ∧ ts.length ≤ 256 ∧ o ≤ 1000
/-- no more than that it is there. -/
def PW (W : World) (pb : Nat) : Prop := ∃ v x, W.heap[pb]? = some (.cells #[v, .int .i64 x] 56 (0, 0))
section
variable {W W' : World} {pb o : Nat} {ts : List Bs}
theorem PT.weak (h : PT W pb o ts) : PW W pb := by
  obtain ⟨tb, off, cap, h1, -⟩ := h
  exact ⟨_, _, h1⟩
theorem PT.lt (h : PT W pb o ts) : pb < W.heap.size := by
  obtain ⟨tb, off, cap, h1, -⟩ := h
  exact heap_lt h1
theorem PW.lt (h : PW W pb) : pb < W.heap.size := by
  obtain ⟨v, x, h1⟩ := h
  exact heap_lt h1
theorem PT.fr {S : Nat → Prop} (h : PT W pb o ts) (f : Fr S W W') (hs : ∀ k, k < W.heap.size → ¬ S k) : PT W' pb o ts := by
  obtain ⟨tb, off, cap, h1, h2, h3, h4, h5, h6, h7, h8, h9⟩ := h
  exact ⟨tb, off, cap, (f.block pb (heap_lt h1) (hs _ (heap_lt h1))).trans h1, h2, h3, Nat.lt_of_lt_of_le h4 f.size, h5, fun i t ht => f.cell (h6 i t ht) (hs _ h4), h7, h8, h9⟩
theorem PW.fr {S : Nat → Prop} (h : PW W pb) (f : Fr S W W') (hs : ∀ k, k < W.heap.size → ¬ S k) : PW W' pb := by
  obtain ⟨v, x, h1⟩ := h
  exact ⟨v, x, (f.block pb (heap_lt h1) (hs _ (heap_lt h1))).trans h1⟩
theorem PT.bel (h : PT W pb o ts) (f : Below W.heap.size W W') : PT W' pb o ts := h.fr (S := fun _ => False) (Fr.of_below f) (fun _ _ => id)
/-- one cell of the parser is written. -/
theorem PT.other (h : ∀ i t, ts[i]? = some t → W.cell? ⟨o, i, none⟩ = some (cellS t)) (hne : o ≠ pb) (j : Nat) (u : Value) : ∀ i t, ts[i]? = some t → (W.setCell ⟨pb, j, none⟩ u).cell? ⟨o, i, none⟩ = some (cellS t) :=
  fun i t ht => (Fr.one W pb j u).cell (h i t ht) hne
theorem PT.open (h : PT W pb o ts) (q : Nat) (hq : q ≤ 1000) : PT (W.setCell ⟨pb, 1, none⟩ (.int .i64 q)) pb q ts := by
  obtain ⟨tb, off, cap, h1, h2, h3, h4, h5, h6, h7, h8, h9⟩ := h
  exact ⟨tb, off, cap, heap_set h1 _ _, h2, h3, (by simpa [World.setCell] using h4), h5, fun i t ht => (Fr.one W pb 1 _).cell (h6 i t ht) h5, h7, h8, hq⟩
theorem PT.cells (h : PT W pb o ts) : ∃ tb off cap, W.cell? ⟨pb, 0, none⟩ = some (.slice (some ⟨tb, off, none⟩) ts.length cap) ∧ W.cell? ⟨pb, 1, none⟩ = some (.int .i64 o) ∧ (∀ j, W.frozen? ⟨pb, j, none⟩ = false) ∧ ts.length ≤ cap ∧ cap ≤ maxLen ∧
    (∀ i t, ts[i]? = some t → W.cell? ⟨tb, off + i, none⟩ = some (cellS t)) ∧ ts.length ≤ 256 ∧ o ≤ 1000 ∧
    (∀ t r, ts = t :: r → PT (W.setCell ⟨pb, 0, none⟩ (.slice (some ⟨tb, off + 1, none⟩) r.length (cap - 1))) pb o r ∧ (cap - 1 = 0 → PT (W.setCell ⟨pb, 0, none⟩ (.slice (some ⟨tb, off, none⟩) r.length 0)) pb o r)) := by
  obtain ⟨tb, off, cap, h1, h2, h3, h4, h5, h6, h7, h8, h9⟩ := h
  refine ⟨tb, off, cap, ?_, ?_, fun j => Lib.frozen_of_heap h1 j, h2, h3, h6, h8, h9, ?_⟩
  · rw [Lib.cell_of_heap h1]; rfl
  · rw [Lib.cell_of_heap h1]; rfl
  · rintro t r rfl
    simp only [List.length_cons] at h2 h8
    refine ⟨⟨tb, off + 1, cap - 1, heap_set h1 _ _, by omega, by omega, (by simpa [World.setCell] using h4), h5, fun i t ht => ?_, fun t ht => h7 t (List.mem_cons_of_mem _ ht), by omega, h9⟩, fun hc => ?_⟩
    rotate_left
    · have hr : r = [] := List.length_eq_zero_iff.1 (by omega)
      subst hr
      exact ⟨tb, off, 0, heap_set h1 _ _, Nat.le_refl _, Nat.zero_le _, (by simpa [World.setCell] using h4), h5, fun i t ht => (by simp at ht), fun t ht => (by cases ht), Nat.zero_le _, h9⟩
    have := (Fr.one W pb 0 (.slice (some ⟨tb, off + 1, none⟩) r.length (cap - 1))).cell (h6 (i + 1) t (by simpa using ht)) h5
    rw [show off + 1 + i = off + (i + 1) by omega]
    exact this
end
theorem enter_any {W : World} {pb o : Nat} {ts : List Bs} (h : PT W pb o ts) (ho : o ≤ 24) :
    Calls Tryz.prog 32 #[.pointer (some ⟨pb, 0, none⟩)] W fun e w' => e = .returned (.tuple #[]) ∧ PT w' pb (o + 1) ts ∧ Fr (· = pb) W w' := by
  obtain ⟨tb, off, cap, c0, c1, fz, -, -, -, -, -, -⟩ := h.cells
  have f1 := fz 1
  have HP := Lib.hid (h.open (o + 1) (by omega))
  clear h fz
  go_enter Tryz.func32, Tryz.ntmps32
  go_wp2
  refine bodyPost_end (results_none rfl _ _ _) rfl ?_
  exact ⟨rfl, HP.out, Fr.one _ _ _ _⟩
theorem enter_deep {W : World} {pb o : Nat} {ts : List Bs} (h : PT W pb o ts) (ho : 24 < o) :
    Calls Tryz.prog 32 #[.pointer (some ⟨pb, 0, none⟩)] W fun e w' => e = .panicked bad ∧ w' = W := by
  obtain ⟨tb, off, cap, c0, c1, fz, -, -, -, -, -, -⟩ := h.cells
  clear h fz
  go_enter Tryz.func32, Tryz.ntmps32
  go_wp2
  exact ⟨rfl, rfl, rfl⟩
theorem leave_any {W : World} {pb o : Nat} {ts : List Bs} (h : PT W pb (o + 1) ts) (u : FrameMode) :
    CallsD Tryz.prog 33 #[.pointer (some ⟨pb, 0, none⟩)] u W fun e u' w' => u' = u ∧ e = .returned (.tuple #[]) ∧ PT w' pb o ts ∧ Fr (· = pb) W w' := by
  obtain ⟨tb, off, cap, c0, c1, fz, -, -, -, -, ho, -⟩ := h.cells
  have f1 := fz 1
  have HP := Lib.hid (h.open o (by omega))
  clear h fz
  go_enter_d Tryz.func33, Tryz.ntmps33
  go_wp2
  refine bodyPost_end (results_none rfl _ _ _) rfl ?_
  exact ⟨rfl, HP.out, Fr.one _ _ _ _⟩
theorem leave_weak {W : World} {pb : Nat} (h : PW W pb) (u : FrameMode) :
    CallsD Tryz.prog 33 #[.pointer (some ⟨pb, 0, none⟩)] u W fun e u' w' => u' = u ∧ e = .returned (.tuple #[]) ∧ PW w' pb ∧ Fr (· = pb) W w' := by
  obtain ⟨v, x, h1⟩ := h
  have c1 : W.cell? ⟨pb, 1, none⟩ = some (.int .i64 x) := by rw [Lib.cell_of_heap h1]; rfl
  have f1 : W.frozen? ⟨pb, 1, none⟩ = false := Lib.frozen_of_heap h1 1
  have HP := Lib.hid (fun y => (⟨v, y, heap_set h1 1 (.int .i64 y)⟩ : PW (W.setCell ⟨pb, 1, none⟩ (.int .i64 y)) pb))
  clear h1
  go_enter_d Tryz.func33, Tryz.ntmps33
  go_wp2
  refine bodyPost_end (results_none rfl _ _ _) rfl ?_
  exact ⟨rfl, HP.out _, Fr.one _ _ _ _⟩
theorem next_any {W : World} {pb o : Nat} {ts : List Bs} (h : PT W pb o ts) :
    Calls Tryz.prog 51 #[.pointer (some ⟨pb, 0, none⟩)] W fun e w' => e = .returned (.string (st (ts.headD []))) ∧ w' = W := by
  obtain ⟨tb, off, cap, c0, c1, fz, hcap, hmax, hcell, h256, -, -⟩ := h.cells
  unfold maxLen at hmax
  cases ts with
  | nil =>
    clear h fz hcell
    rw [List.length_nil] at c0
    go_enter Tryz.func51, Tryz.ntmps51
    go_wp2
    go_ret
    exact ⟨rfl, rfl⟩
  | cons t r =>
    have k0 := hcell 0 t rfl
    rw [Nat.add_zero] at k0
    unfold cellS at k0
    rw [List.length_cons] at *
    clear h fz hcell
    generalize r.length = n at *
    go_enter Tryz.func51, Tryz.ntmps51
    go_wp2
    go_ret
    exact ⟨rfl, rfl⟩
theorem take_any {W : World} {pb o : Nat} {t : Bs} {r : List Bs} (h : PT W pb o (t :: r)) :
    Calls Tryz.prog 37 #[.pointer (some ⟨pb, 0, none⟩)] W fun e w' => e = .returned (.string (st t)) ∧ PT w' pb o r ∧ Fr (· = pb) W w' := by
  obtain ⟨tb, off, cap, c0, c1, fz, hcap, hmax, hcell, h256, -, hP⟩ := h.cells
  unfold maxLen at hmax
  have k0 := hcell 0 t rfl
  have HP := Lib.hid (hP t r rfl).1
  have HP0 := Lib.hid (hP t r rfl).2
  rw [Nat.add_zero] at k0
  unfold cellS at k0
  have f0 := fz 0
  rw [List.length_cons] at *
  clear h fz hcell hP
  generalize hn : r.length = n at *
  clear hn
  go_enter Tryz.func37, Tryz.ntmps37
  go_wp2
  all_goals
    go_ret
    first
      | exact ⟨rfl, HP.out, Fr.one _ _ _ _⟩
      | exact ⟨rfl, HP0.out (by omega), Fr.one _ _ _ _⟩
theorem take_none {W : World} {pb o : Nat} (h : PT W pb o []) :
    Calls Tryz.prog 37 #[.pointer (some ⟨pb, 0, none⟩)] W fun e w' => e = .panicked bad ∧ w' = W := by
  obtain ⟨tb, off, cap, c0, c1, fz, hcap, hmax, hcell, h256, -, hP⟩ := h.cells
  clear h fz hcell hP
  rw [List.length_nil] at c0
  go_enter Tryz.func37, Tryz.ntmps37
  go_wp2
  exact ⟨rfl, rfl, rfl⟩
theorem expect_any {W : World} {pb o : Nat} {c t : Bs} {r : List Bs} (h : PT W pb o (t :: r)) (hc : t = c) :
    Calls Tryz.prog 52 #[.pointer (some ⟨pb, 0, none⟩), .string (st c)] W fun e w' => e = .returned (.tuple #[]) ∧ PT w' pb o r ∧ Fr (· = pb) W w' := by
  have HT := Lib.hid (take_any h)
  subst hc
  have g : ((st t).toList != (st t).toList) = false := by simp
  clear h
  generalize st t = x at *
  go_enter Tryz.func52, Tryz.ntmps52
  go_wp2_with (go_at_call 37; (with_reducible refine HT.out.mono ?_); rintro e w1 ⟨rfl, hP, hF⟩; have HP := Lib.hid hP; have HF := Lib.hid hF; clear hP hF)
  refine bodyPost_end (results_none rfl _ _ _) rfl ?_
  exact ⟨rfl, HP.out, HF.out⟩
theorem expect_not {W : World} {pb o : Nat} {c : Bs} {ts : List Bs} (h : PT W pb o ts) (hc : ts.head? ≠ some c) :
    Calls Tryz.prog 52 #[.pointer (some ⟨pb, 0, none⟩), .string (st c)] W fun e w' => e = .panicked bad ∧ PW w' pb ∧ Fr (· = pb) W w' := by
  cases ts with
  | nil =>
    have HT := Lib.hid (take_none h)
    have HW := Lib.hid h.weak
    clear h
    generalize st c = x at *
    go_enter Tryz.func52, Tryz.ntmps52
    go_wp2_with (go_at_call 37; (with_reducible refine HT.out.mono ?_); rintro e w1 ⟨rfl, rfl⟩)
    exact ⟨rfl, rfl, HW.out, Fr.refl _ _⟩
  | cons t r =>
    have HT := Lib.hid (take_any h)
    have g : ((st t).toList == (st c).toList) = false := by
      rw [st_toList, st_toList, beq_eq_false_iff_ne]
      intro e
      exact hc (by rw [e]; rfl)
    clear h hc
    generalize st c = x at *
    generalize st t = y at *
    go_enter Tryz.func52, Tryz.ntmps52
    go_wp2_with (go_at_call 37; (with_reducible refine HT.out.mono ?_); rintro e w1 ⟨rfl, hP, hF⟩; have HP := Lib.hid hP; have HF := Lib.hid hF; clear hP hF)
    exact ⟨rfl, rfl, HP.out.weak, HF.out⟩
end Go.Proofs.YtbmnngliapmgfaaGreatDoor
namespace Go.Proofs.YtbmnngliapmgfaaGreatDoor
open Go.RowKit
set_option linter.unusedVariables false
set_option linter.unusedSimpArgs false
def enc : Nd → Value
  | .num n => .iface 57 (.int .i64 n)
  | .nam s => .iface 125 (.string (st s))
  | .pre g r => .iface 124 (.agg #[.string (st g), enc r])
  | .bin g l r => .iface 111 (.agg #[.string (st g), enc l, enc r])
  | .cho c y n => .iface 87 (.agg #[enc c, enc y, enc n])
  | .asg s g r => .iface 72 (.agg #[.string (st s), .string (st g), enc r])
/-- what a call leaves that reads a node or finds no expression. -/
def ndPost (pb o : Nat) (W : World) (r : Option (Nd × List Bs)) (e : Ending) (w' : World) : Prop := match r with
  | some x => e = .returned (enc x.1) ∧ PT w' pb o x.2 ∧ Fr (· = pb) W w'
  | none => e = .panicked bad ∧ PW w' pb ∧ Fr (· = pb) W w'
def Does (pb f : Nat) (K : Kd) (fn : Nat) : Prop := ∀ (o : Nat) (ts : List Bs) (W : World), PT W pb o ts → enough K ts.length ≤ f → Calls Tryz.prog fn #[.pointer (some ⟨pb, 0, none⟩)] W (ndPost pb o W (pP f K o ts))
theorem ndPost.fr {pb o : Nat} {W0 W w' : World} {r : Option (Nd × List Bs)} {e : Ending} (h0 : Fr (· = pb) W0 W) (h : ndPost pb o W r e w') : ndPost pb o W0 r e w' := by
  unfold ndPost at *
  cases r with
  | none => exact ⟨h.1, h.2.1, h0.trans h.2.2⟩
  | some x => exact ⟨h.1, h.2.1, h0.trans h.2.2⟩
def restN (W : World) (pb : Nat) : Nat := match W.cell? ⟨pb, 0, none⟩ with
  | some (.slice _ n _) => n
  | _ => 0
theorem rest_eq {W : World} {pb o : Nat} {ts : List Bs} (h : PT W pb o ts) : restN W pb = ts.length := by
  obtain ⟨tb, off, cap, c0, -⟩ := h.cells
  unfold restN
  rw [c0]
theorem contains_st (l : List Bs) (t : Bs) : Lib.containsS (l.map st) (st t) = l.contains t := by
  rw [Bool.eq_iff_iff, Lib.containsS_iff, List.contains_iff_mem, List.mem_map]
  constructor
  · rintro ⟨a, ha, e⟩
    rw [← st_inj e]; exact ha
  · exact fun h => ⟨t, h, rfl⟩
/-- a row of strings in one block. -/
def Strs (W : World) (sb : Nat) (l : List Bs) : Prop := sb < W.heap.size ∧ ∀ j t, l[j]? = some t → W.cell? ⟨sb, j, none⟩ = some (cellS t)
theorem Strs.fr {W W' : World} {sb pb : Nat} {l : List Bs} (h : Strs W sb l) (f : Fr (· = pb) W W') (hs : sb ≠ pb) : Strs W' sb l :=
  ⟨Nat.lt_of_lt_of_le h.1 f.size, fun j t ht => f.cell (h.2 j t ht) hs⟩
theorem among_any {W : World} {sb c : Nat} {l : List Bs} (h : Strs W sb l) (hl : l.length ≤ 1000) (t : Bs) (b : Bool) (hb : l.contains t = b) :
    Calls Tryz.prog 73 #[.slice (some ⟨sb, 0, none⟩) l.length c, .string (st t)] W fun e w' => e = .returned (.bool b) ∧ w' = W := by
  have hc := Tryz.slices_Contains_string sb 0 l.length c (l.map st) (st t) W (by simp) (by omega) (by
    intro j hj
    rw [List.length_map] at hj
    rw [Nat.zero_add, h.2 j l[j] (List.getElem?_eq_getElem hj)]
    unfold cellS
    rw [List.getD_eq_getElem?_getD, List.getElem?_map, List.getElem?_eq_getElem hj]
    rfl)
  refine hc.mono ?_
  rintro e w' ⟨rfl, rfl⟩
  refine ⟨?_, rfl⟩
  rw [List.take_of_length_le (by simp), contains_st, hb]
theorem lev_not (k : Nat) : (lev k).contains [] = false := by
  unfold lev
  rcases Nat.lt_or_ge k 10 with h | h
  · have : ∀ k : Fin 10, (levL.getD k.val []).contains [] = false := by decide
    exact this ⟨k, h⟩
  · rw [List.getD_eq_getElem?_getD, List.getElem?_eq_none (by exact h)]; rfl
theorem enc_eq (l : Nd) : ∃ a x, enc l = .iface a x := by cases l <;> exact ⟨_, _, rfl⟩
def lvRel (pb o : Nat) (W : World) (f k : Nat) (R : Option (Nd × List Bs)) (lv : Value) (wr : World) : Prop :=
  ∃ (l : Nd) (ts : List Bs) (q : Nat), lv = enc l ∧ PT wr pb o ts ∧ Fr (· = pb) W wr ∧ q ≤ f ∧ 20 * ts.length + 2 ≤ q ∧ pP q (.more k l) o ts = R
set_option maxRecDepth 100000 in
set_option maxHeartbeats 3000000 in
theorem level_any (pb f k g sb c : Nat) (hk : k ≤ 9) (hpl : (callFunc g #[.pointer (some ⟨pb, 0, none⟩)]).run Tryz.prog = fun w => .ok (.enter g #[.pointer (some ⟨pb, 0, none⟩)]) w) (hop : ∀ q, q ≤ f → Does pb q (opK k) g) (o : Nat) (ts : List Bs) (W : World) (h : PT W pb o ts) (hs : Strs W sb (lev k)) (hsb : sb ≠ pb)
    (hf : enough (.lev k) ts.length ≤ f + 1) :
    Calls Tryz.prog 64 #[.pointer (some ⟨pb, 0, none⟩), .func (.func g) #[.pointer (some ⟨pb, 0, none⟩)] #[], .slice (some ⟨sb, 0, none⟩) (lev k).length c] W (ndPost pb o W (pP (f + 1) (.lev k) o ts)) := by
  have hll : (lev k).length ≤ 1000 := by
    have : ∀ k : Fin 10, (levL.getD k.val []).length ≤ 1000 := by decide
    exact this ⟨k, by omega⟩
  have hen : ∀ n, enough (opK k) n ≤ enough (.lev k) n - 1 := by
    intro n
    unfold opK
    by_cases e : k = 9
    · subst e; simp [enough]
    · rw [if_neg e]; simp only [enough]; omega
  have hen1 : ∀ n, 20 * n + 2 ≤ enough (.lev k) n - 1 := by intro n; simp only [enough]; omega
  have hop1 : ∀ q n, q ≤ f → 20 * (n + 1) + 2 ≤ q + 1 → enough (opK k) n ≤ q := by
    intro q n hq hn
    have h1 : enough (opK k) n ≤ 20 * n + 13 - k - 1 := hen n
    omega
  rw [pP_lev]
  have HO := hop f (Nat.le_refl _) o ts W h (by have := hen ts.length; omega)
  have HL := Lib.hid (fun (l : Nd) (r : List Bs) (hr : pP f (opK k) o ts = some (l, r)) => show 20 * r.length + 2 ≤ f from by
    have h1 := pP_le _ _ _ _ _ _ hr
    have h2 : enough (.lev k) ts.length = 20 * ts.length + 13 - k := rfl
    omega)
  have HS := Lib.hid (fun W' (hf : Fr (· = pb) W W') => hs.fr hf hsb)
  have HP := Lib.hid hop
  have HE := Lib.hid hop1
  clear hop hen hen1 hop1 hs
  cases hr : pP f (opK k) o ts with
  | none =>
    rw [hr] at HO
    have HO := Lib.hid HO
    clear hr HL HP HE HS
    go_enter Tryz.func64, Tryz.ntmps64
    go_wp2_with ((with_reducible refine HO.out.mono ?_); rintro e w1 ⟨rfl, hP, hF⟩; have HP1 := Lib.hid hP; have HF1 := Lib.hid hF; clear hP hF)
    exact ⟨rfl, rfl, HP1.out, HF1.out⟩
  | some x =>
    obtain ⟨l0, r0⟩ := x
    rw [hr] at HO
    have HO := Lib.hid HO
    have HR0 := HL.out l0 r0 hr
    clear hr HL
    show Calls _ _ _ _ (ndPost pb o W (pP f (.more k l0) o r0))
    obtain ⟨R, hR⟩ : ∃ R, pP f (.more k l0) o r0 = R := ⟨_, rfl⟩
    rw [hR]
    have HR := Lib.hid hR
    clear hR
    go_enter Tryz.func64, Tryz.ntmps64
    go_wp2_with ((with_reducible refine HO.out.mono ?_); rintro e w1 ⟨rfl, hP, hF⟩; have HP1 := Lib.hid hP; have HF1 := Lib.hid hF; clear hP hF)
    go_loopw [7] (fun lv wr => lvRel pb o W f k R lv wr) (fun _ wr => restN wr pb)
    case atStart => exact ⟨l0, r0, f, rfl, HP1.out, HF1.out, Nat.le_refl _, HR0, HR.out⟩
    case round =>
      obtain ⟨l, ts', q, rfl, hP, hF, hq, hn, hR⟩ := hrel
      have HN := Lib.hid (next_any hP)
      have HSr := HS.out _ hF
      have HF := Lib.hid hF
      have HPr := Lib.hid hP
      clear HO HR HP1 HF1 HR0
      obtain ⟨p, rfl⟩ : ∃ p, q = p + 1 := ⟨q - 1, by omega⟩
      cases ts' with
      | nil =>
        rw [pP_more0] at hR
        have HC := Lib.hid (among_any (c := c) HSr hll [] false (lev_not k))
        have HR := Lib.hid hR
        clear hR hP hF HSr hn HP HE HS
        obtain ⟨va, vx, hv⟩ := enc_eq l
        have HV0 := Lib.hid hv
        rw [hv]
        clear hv
        go_wp2_with (first | (go_at_call 51; (with_reducible refine HN.out.mono ?_); rintro e w1 ⟨rfl, rfl⟩) | (go_at_call 73; (with_reducible refine HC.out.mono ?_); rintro e w1 ⟨rfl, rfl⟩))
        go_ret
        rw [← HR.out]
        exact ⟨ret_val HV0.out.symm, HPr.out, HF.out⟩
      | cons t r =>
        rw [pP_more] at hR
        cases hb : (lev k).contains t
        · rw [if_neg (by rw [hb]; decide)] at hR
          have HC := Lib.hid (among_any (c := c) HSr hll t false hb)
          have HR := Lib.hid hR
          clear hR hP hF HSr hn HP HE HS hb
          obtain ⟨va, vx, hv⟩ := enc_eq l
          have HV0 := Lib.hid hv
          rw [hv]
          clear hv
          go_wp2_with (first | (go_at_call 51; (with_reducible refine HN.out.mono ?_); rintro e w1 ⟨rfl, rfl⟩) | (go_at_call 73; (with_reducible refine HC.out.mono ?_); rintro e w1 ⟨rfl, rfl⟩))
          go_ret
          rw [← HR.out]
          exact ⟨ret_val HV0.out.symm, HPr.out, HF.out⟩
        · rw [if_pos hb] at hR
          have HC := Lib.hid (among_any (c := c) HSr hll t true hb)
          have HT := Lib.hid (take_any hP)
          have HE2 := Lib.hid (HE.out p r.length (by omega) (by rw [List.length_cons] at hn; omega))
          have HM := Lib.hid (rest_eq hP)
          cases hx : pP p (opK k) o r with
          | none =>
            rw [hx] at hR
            have HO2 := Lib.hid (fun W' (h' : PT W' pb o r) => by have := HP.out p (by omega) o r W' h' HE2.out; rw [hx] at this; exact this)
            have HR := Lib.hid hR
            clear hR hP hF HSr hn HP HE HS hb hx HE2
            obtain ⟨va, vx, hv⟩ := enc_eq l
            rw [hv]
            clear hv
            go_wp2_with (first | (go_at_call 51; (with_reducible refine HN.out.mono ?_); rintro e w1 ⟨rfl, rfl⟩) | (go_at_call 73; (with_reducible refine HC.out.mono ?_); rintro e w1 ⟨rfl, rfl⟩) | (go_at_call 37; (with_reducible refine HT.out.mono ?_); rintro e w2 ⟨rfl, hP2, hF2⟩; have HP2 := Lib.hid hP2; have HF2 := Lib.hid hF2; clear hP2 hF2) | ((with_reducible refine (HO2.out _ HP2.out).mono ?_); rintro e w3 ⟨rfl, hP3, hF3⟩; have HP3 := Lib.hid hP3; have HF3 := Lib.hid hF3; clear hP3 hF3))
            refine ⟨rfl, ?_⟩
            rw [← HR.out]
            exact ⟨rfl, HP3.out, (HF.out.trans HF2.out).trans HF3.out⟩
          | some x =>
            obtain ⟨x1, r2⟩ := x
            rw [hx] at hR
            have hR' : pP p (.more k (.bin t l x1)) o r2 = R := hR
            have hle := pP_le _ _ _ _ _ _ hx
            have HO2 := Lib.hid (fun W' (h' : PT W' pb o r) => by have := HP.out p (by omega) o r W' h' HE2.out; rw [hx] at this; exact this)
            have HR := Lib.hid hR'
            have HQ := Lib.hid (show 20 * r2.length + 2 ≤ p by rw [List.length_cons] at hn; omega)
            have HV := Lib.hid (show Value.iface 111 (.agg #[.string (st t), enc l, enc x1]) = enc (.bin t l x1) from rfl)
            clear hR hR' hP hF HSr hn hb hx HE2
            obtain ⟨va, vx, hv⟩ := enc_eq l
            obtain ⟨ua, ux, hu⟩ := enc_eq x1
            have HO2 := Lib.hid (fun W' (h' : PT W' pb o r) => (HO2.out W' h').mono (fun e w3 (h3 : ndPost pb o W' (some (x1, r2)) e w3) => show e = .returned (.iface ua ux) ∧ PT w3 pb o r2 ∧ Fr (· = pb) W' w3 by rw [← hu]; exact h3))
            rw [hv] at HV ⊢
            rw [hu] at HV
            clear hv hu
            go_wp2_with (first | (go_at_call 51; (with_reducible refine HN.out.mono ?_); rintro e w1 ⟨rfl, rfl⟩) | (go_at_call 73; (with_reducible refine HC.out.mono ?_); rintro e w1 ⟨rfl, rfl⟩) | (go_at_call 37; (with_reducible refine HT.out.mono ?_); rintro e w2 ⟨rfl, hP2, hF2⟩; have HP2 := Lib.hid hP2; have HF2 := Lib.hid hF2; clear hP2 hF2) | ((with_reducible refine (HO2.out _ HP2.out).mono ?_); rintro e w3 ⟨rfl, hP3, hF3⟩; have HP3 := Lib.hid hP3; have HF3 := Lib.hid hF3; clear hP3 hF3))
            go_roundw
            case rel =>
              refine ⟨.bin t l x1, r2, p, ?_, HP3.out, (HF.out.trans HF2.out).trans HF3.out, by omega, HQ.out, HR.out⟩
              rw [← HV.out]
            case measure =>
              have h3 := rest_eq HP3.out
              rw [h3, HM.out, List.length_cons]
              omega
end Go.Proofs.YtbmnngliapmgfaaGreatDoor
