/- The document's answer: begins, stops; its Ends in memory; inner. -/
import Derived.Test.YtoahgblgchmclaaLK
namespace Go.Proofs.Ytoahgblgchmclaa
open Go.RowKit
set_option linter.unusedVariables false
set_option linter.unusedSimpArgs false
theorem pre_take (p l : Bs) : (l.take p.length == p) = pre p l := by
  rw [Bool.eq_iff_iff, beq_iff_eq]
  unfold pre
  rw [List.isPrefixOf_iff_prefix, List.prefix_iff_eq_take]
  exact ⟨fun h => h.symm, fun h => h.symm⟩
theorem pre_short (p l : Bs) (h : l.length < p.length) : pre p l = false := by
  unfold pre
  rw [Bool.eq_false_iff]
  intro e
  have := (List.isPrefixOf_iff_prefix.1 e).length_le
  omega
theorem rbegins_any (s t : ByteArray) (hs : s.size ≤ maxLen) (ht : t.size ≤ maxLen) (w : World) :
    Calls Try.prog 16 #[.string s, .string t] w fun e w' => e = .returned (.bool (pre t.data.toList s.data.toList)) ∧ w' = w := by
  unfold maxLen at hs ht
  by_cases h : t.size ≤ s.size
  · have HB := Lib.hid (pre_take t.data.toList s.data.toList)
    go_enter Try.func16, Try.ntmps16
    go_wp2
    go_ret
    refine ⟨ret_bool ?_, rfl⟩
    rw [ByteArray.toList_eq, ByteArray.toList_eq, extract_mid, List.drop_zero, Nat.sub_zero, ← size_len t]
    exact HB.out
  · have HB := Lib.hid (pre_short t.data.toList s.data.toList (by rw [size_len, size_len]; omega))
    go_enter Try.func16, Try.ntmps16
    go_wp2
    go_ret
    exact ⟨ret_bool HB.out.symm, rfl⟩
theorem rstops_any (c : UInt8) (w : World) :
    Calls Try.prog 28 #[.int .u8 c.toNat] w fun e w' => e = .returned (.bool (stopB c)) ∧ w' = w := by
  have HS := Lib.hid (show ∀ b, (b = true ↔ (c.toNat = 32 ∨ c.toNat = 9 ∨ c.toNat = 10 ∨ c.toNat = 124 ∨ c.toNat = 38 ∨ c.toNat = 59 ∨ c.toNat = 60 ∨ c.toNat = 62 ∨ c.toNat = 40 ∨ c.toNat = 41)) → b = stopB c from by
    intro b hb
    rw [Bool.eq_iff_iff, hb]
    unfold stopB
    simp only [Bool.or_eq_true, decide_eq_true_eq, ← UInt8.toNat_inj, or_assoc]
    exact Iff.rfl)
  go_enter Try.func28, Try.ntmps28
  go_wp2
  all_goals
    go_ret
    exact ⟨ret_bool (HS.out _ (by simp only [Bool.false_eq_true, true_iff, false_iff]; simp only [beq_iff_eq, beq_eq_false_iff_ne] at *; omega)), rfl⟩
/-- an Ends in a block. -/
def EKP (W : World) (T : Nat) (n : Nat) (m d : Bool) (a : Nat) : Prop :=
  W.heap[T]? = some (.cells #[.int .i64 n, .bool m, .bool d, .int .i64 a] 51 (0, 0))
section
variable {W W' : World} {T : Nat} {n : Nat} {m d : Bool} {a : Nat}
theorem EKP.cells (h : EKP W T n m d a) : W.cell? ⟨T, 0, none⟩ = some (.int .i64 n) ∧ W.cell? ⟨T, 1, none⟩ = some (.bool m) ∧ W.cell? ⟨T, 2, none⟩ = some (.bool d) ∧ W.cell? ⟨T, 3, none⟩ = some (.int .i64 a) ∧ W.frozen? ⟨T, 0, none⟩ = false ∧ W.frozen? ⟨T, 1, none⟩ = false ∧ W.frozen? ⟨T, 2, none⟩ = false ∧ W.frozen? ⟨T, 3, none⟩ = false := by
  unfold EKP at h
  refine ⟨?_, ?_, ?_, ?_, Lib.frozen_of_heap h 0, Lib.frozen_of_heap h 1, Lib.frozen_of_heap h 2, Lib.frozen_of_heap h 3⟩ <;> rw [Lib.cell_of_heap h] <;> rfl
theorem EKP.fr {S : Nat → Prop} (h : EKP W T n m d a) (f : Fr S W W') (hs : ¬ S T) : EKP W' T n m d a := (f.block T (heap_lt h) hs).trans h
theorem EKP.all (h : EKP W T n m d a) (n' : Nat) (m' d' : Bool) (a' : Nat) : EKP ((((W.setCell ⟨T, 0, none⟩ (.int .i64 n')).setCell ⟨T, 1, none⟩ (.bool m')).setCell ⟨T, 2, none⟩ (.bool d')).setCell ⟨T, 3, none⟩ (.int .i64 a')) T n' m' d' a' :=
  heap_set (heap_set (heap_set (heap_set h 0 _) 1 _) 2 _) 3 _
end
theorem Fr.four {W w : World} {T : Nat} (h : Fr (fun _ => False) W w) (hT : W.heap.size ≤ T) (x y z u : Value) : Fr (fun _ => False) W ((((w.setCell ⟨T, 0, none⟩ x).setCell ⟨T, 1, none⟩ y).setCell ⟨T, 2, none⟩ z).setCell ⟨T, 3, none⟩ u) :=
  (((h.setCell (p := ⟨T, 0, none⟩) (.inr hT) x).setCell (p := ⟨T, 1, none⟩) (.inr hT) y).setCell (p := ⟨T, 2, none⟩) (.inr hT) z).setCell (p := ⟨T, 3, none⟩) (.inr hT) u
theorem resEnds {W : World} {G : Nat} (fn : Func) (sa : Nat) (hfn : fn.results = #[.cell sa 51]) {n : Nat} {m d : Bool} {a : Nat} (h : EKP W G n m d a)
    (tmps : Array Value) (h1 : tmps.getD sa undef = .pointer (some ⟨G, 0, none⟩)) :
    (results fn tmps).run Try.prog W = .ok (.agg #[.int .i64 n, .bool m, .bool d, .int .i64 a]) W := by
  obtain ⟨t0, t1, t2, t3, _⟩ := h.cells
  have hl : (loadCells ⟨G, 0, none⟩ 4).run Try.prog W = .ok #[.int .i64 n, .bool m, .bool d, .int .i64 a] W := by
    have := run_loadCells_list (P := Try.prog) W ⟨G, 0, none⟩ [.int .i64 n, .bool m, .bool d, .int .i64 a] (fun j v hv => by
      rw [Addr.add_lit, Nat.zero_add]
      match j, hv with
      | 0, hv => simp at hv; subst hv; exact t0
      | 1, hv => simp at hv; subst hv; exact t1
      | 2, hv => simp at hv; subst hv; exact t2
      | 3, hv => simp at hv; subst hv; exact t3)
    exact this
  have h3 : ∀ w, (isAgg 51).run Try.prog w = .ok true w := fun w => by kernel_rfl
  have h4 : ∀ w, (sizeOf 51).run Try.prog w = .ok 4 w := fun w => by kernel_rfl
  have hv : (loadVar 51 ⟨G, 0, none⟩).run Try.prog W = .ok (.agg #[.int .i64 n, .bool m, .bool d, .int .i64 a]) W := by
    simp [loadVar, h3, h4, hl]
  simp only [Array.getD_eq_getD_getElem?] at h1
  simp [results, hfn, h1, hv, asAddr]
/-- what the document tells of a part, from a place on. -/
def enN (b : Nat) : R → Nat
  | .ok j => j - b
  | _ => 0
def enM : R → Bool
  | .more => true
  | _ => false
def enD : R → Bool
  | .deep _ => true
  | _ => false
def enA : R → Nat
  | .deep k => k
  | _ => 0
def endPost (W : World) (b : Nat) (r : R) (e : Ending) (w' : World) : Prop :=
  e = .returned (.agg #[.int .i64 (enN b r), .bool (enM r), .bool (enD r), .int .i64 (enA r)]) ∧ Fr (fun _ => False) W w'
/-- a part, or nothing. -/
def partE (l : Bs) (d : Nat) (q : Bool) (b : Nat) : R := match kd q (l.drop b) with
  | none => .ok b
  | some k => partL l d q k b
def PartR (d : Nat) : Prop := ∀ (W : World) (l : Bs) (x : ByteArray) (b : Nat) (q : Bool) (deep : Nat), x.data.toList = l.drop b → b + x.size ≤ 4611686018427387904 → deep + d = 25 →
  Calls Try.prog 29 #[.string x, .bool q, .int .i64 deep, .int .i64 b] W (endPost W b (partE l d q b))
structure Cfg (cl op : UInt8) (sn db q : Bool) : Prop where
  kc : ∀ r, kd q (cl :: r) = none
  ko : ¬ op = 0 → op = 40 ∧ cl = 41
  kz : op = 0 → ¬ cl = 41
  s : sn = !q
  d : db = false → q = true
def inRel (W : World) (l : Bs) (x : ByteArray) (b d : Nat) (cl op : UInt8) (q : Bool) (r : R) (ov iv : Value) (wr : World) : Prop :=
  ∃ (o i n : Nat), ov = .int .i64 o ∧ iv = .int .i64 i ∧ EKP wr W.heap.size 0 false false 0 ∧ Fr (fun _ => False) W wr ∧ i ≤ x.size ∧ o ≤ i ∧ (op = 0 → o = 0) ∧ x.size - i ≤ n ∧ nestL (partL l d) cl q l n (b + i) o = r
theorem kd_39 (r : Bs) : kd true (39 :: r) = none := by simp [kd]
theorem kd_34 (r : Bs) : kd true (34 :: r) = none := by simp [kd]
theorem kd_40 (q : Bool) (r : Bs) : kd q (40 :: r) = none := by cases q <;> simp [kd]
theorem drop_base {l : Bs} {x : ByteArray} {b : Nat} (h : x.data.toList = l.drop b) (i : Nat) : l.drop (b + i) = x.data.toList.drop i := by
  rw [h, List.drop_drop]
theorem base_len {l : Bs} {x : ByteArray} {b : Nat} (h : x.data.toList = l.drop b) : x.size = l.length - b := by
  rw [← size_len, h, List.length_drop]
theorem base_at {l : Bs} {x : ByteArray} {b i : Nat} (h : x.data.toList = l.drop b) (hi : i < x.size) : l.getD (b + i) 0 = x[i] := by
  have h2 := drop_base h i
  rw [at_byte hi] at h2
  rw [List.getD_eq_getElem?_getD]
  have : (l.drop (b + i)).head? = some x[i] := by rw [h2]; rfl
  rw [List.head?_drop] at this
  rw [this]; rfl
/-- one step of nesting, where no part begins. -/
theorem nest_none {P : Bool → Kd → Nat → R} {e : UInt8} {q : Bool} {l : Bs} {n i o : Nat} {r : R} (h : nestL P e q l (n + 1) i o = r) (hi : i < l.length) (hk : kd q (l.drop i) = none) :
    (if l.getD i 0 = e ∧ o = 0 then .ok (i + 1) else if e = 41 ∧ l.getD i 0 = 40 then nestL P e q l n (i + 1) (o + 1) else if e = 41 ∧ l.getD i 0 = 41 then nestL P e q l n (i + 1) (o - 1) else nestL P e q l n (i + 1) o) = r := by
  rw [nestL, if_neg (by omega), hk] at h
  exact h
theorem nest_some {P : Bool → Kd → Nat → R} {e : UInt8} {q : Bool} {l : Bs} {n i o : Nat} {r : R} {k : Kd} (h : nestL P e q l (n + 1) i o = r) (hi : i < l.length) (hk : kd q (l.drop i) = some k) :
    (match P q k i with | .ok j => nestL P e q l n j o | r => r) = r := by
  rw [nestL, if_neg (by omega), hk] at h
  exact h
end Go.Proofs.Ytoahgblgchmclaa
