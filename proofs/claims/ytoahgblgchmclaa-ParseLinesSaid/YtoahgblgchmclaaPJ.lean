/- What comes next: an item, a function. -/
import Derived.Test.YtoahgblgchmclaaPI
namespace Go.Proofs.Ytoahgblgchmclaa
open Go.RowKit
set_option linter.unusedVariables false
set_option linter.unusedSimpArgs false
theorem cells3 {W : World} {P : Nat} {a b c : Value} {T : TypeId} {fz : Nat × Nat} (h : W.heap[P]? = some (.cells #[a, b, c] T fz)) : W.cell? ⟨P, 0, none⟩ = some a ∧ W.cell? ⟨P, 1, none⟩ = some b ∧ W.cell? ⟨P, 2, none⟩ = some c :=
  ⟨by rw [Lib.cell_of_heap h]; rfl, by rw [Lib.cell_of_heap h]; rfl, by rw [Lib.cell_of_heap h]; rfl⟩
theorem kept3 {W W' : World} {a b c : Value} {T : TypeId} (f : Fr (fun _ => False) (W.alloc (.cells #[a, b, c] T)) W') : W'.heap[W.heap.size]? = some (.cells #[a, b, c] T (0, 0)) :=
  (f.block W.heap.size (heap_lt (heap_alloc_new W _)) id).trans (heap_alloc_new W _)
section
variable {W W' : World} {n p g cap : Nat} {K : Nat → Prop} {all : List Tk} {nv : Value} {s : S}
theorem bRedir_hd (t : Tk) (w : World) : Calls Try.prog 39 #[.agg #[.int .i64 t.kind, .string (st t.text), .int .i64 t.at_]] w fun e w' => e = .returned (.bool (bRedir t)) ∧ Fr (fun _ => False) w w' := bRedir_any t.kind t.text t.at_ w
theorem bFirst_hd (t : Tk) (w : World) : Calls Try.prog 40 #[.agg #[.int .i64 t.kind, .string (st t.text), .int .i64 t.at_]] w fun e w' => e = .returned (.bool (bFirst t)) ∧ Fr (fun _ => False) w w' := bFirst_any t.kind t.text t.at_ w
theorem isSet_hd (t : Tk) (ht : t.text.length ≤ 4096) (w : World) : Calls Try.prog 77 #[.agg #[.int .i64 t.kind, .string (st t.text), .int .i64 t.at_]] w fun e w' => e = .returned (.bool (isSetB t.text)) ∧ Fr (fun _ => False) w w' := isSet_any t.kind t.text t.at_ ht w
theorem bItem_any (h : PM W n K p g cap all nv s) :
    Calls Try.prog 23 #[.pointer (some ⟨p, 0, none⟩)] W fun e w' => e = .returned (.bool (bItem s.hd)) ∧ Fr (fun _ => False) W w' := by
  have HN := Lib.hid (next_any h)
  have HC := Lib.hid (fun w => cKind_any s.hd.text w)
  have HR := Lib.hid (fun w => bRedir_hd s.hd w)
  have HB := Lib.hid (fun w => bFirst_hd s.hd w)
  have HV := Lib.hid (show bItem s.hd = (s.hd.text == [33] || (!(cKind s.hd.text == 0) || (bRedir s.hd || bFirst s.hd))) from rfl)
  have hst : (((st s.hd.text).toList == [33]) : Bool) = (s.hd.text == [33]) := by rw [st_toList]
  clear h
  generalize hb : (s.hd.text == [33]) = b at *
  clear hb
  generalize cKind s.hd.text = k at *
  generalize bRedir s.hd = r at *
  generalize bFirst s.hd = f at *
  have nx : True := trivial
  cases b with
  | true =>
    go_enter Try.func23, Try.ntmps23
    go_wp2_with (first | (refine wpList_field rfl _ _ rfl _ _ _ rfl _ rfl ?_) | (go_at_call 25; (with_reducible refine HN.out.mono ?_); rintro e w1 ⟨rfl, hF1⟩; have HF1 := Lib.hid hF1; clear hF1))
    go_ret
    exact ⟨ret_bool (by rw [HV.out]; rfl), HF1.out.alloc _⟩
  | false =>
    by_cases hk : k = 0
    · have hk1 : (k != 0) = false := by rw [hk]; rfl
      have hk2 : (k == 0) = true := by rw [hk]; rfl
      cases r with
      | true =>
        go_enter Try.func23, Try.ntmps23
        go_wp2_with (first | (refine wpList_field rfl _ _ rfl _ _ _ rfl _ rfl ?_) | (go_at_call 25; (with_reducible refine HN.out.mono ?_); rintro e w1 ⟨rfl, hF1⟩; have HF1 := Lib.hid hF1; clear hF1) | (go_at_call 38; (with_reducible refine (HC.out _).mono ?_); rintro e w2 ⟨rfl, rfl⟩) | (go_at_call 39; (with_reducible refine (HR.out _).mono ?_); rintro e w3 ⟨rfl, hF3⟩; have HF3 := Lib.hid ((HF1.out.alloc _).trans hF3); clear hF3))
        go_ret
        exact ⟨ret_bool (by rw [HV.out, hk2]; rfl), HF3.out⟩
      | false =>
        go_enter Try.func23, Try.ntmps23
        go_wp2_with (first | (refine wpList_field rfl _ _ rfl _ _ _ rfl _ rfl ?_) | (go_at_call 25; (with_reducible refine HN.out.mono ?_); rintro e w1 ⟨rfl, hF1⟩; have HF1 := Lib.hid hF1; clear hF1) | (go_at_call 38; (with_reducible refine (HC.out _).mono ?_); rintro e w2 ⟨rfl, rfl⟩) | (go_at_call 39; (with_reducible refine (HR.out _).mono ?_); rintro e w3 ⟨rfl, hF3⟩; have HF3 := Lib.hid ((HF1.out.alloc _).trans hF3); obtain ⟨e0, e1, e2⟩ := cells3 (kept3 hF3); clear hF3) | (go_at_call 40; (with_reducible refine (HB.out _).mono ?_); rintro e w4 ⟨rfl, hF4⟩; have HF4 := Lib.hid (HF3.out.trans hF4); clear hF4))
        go_ret
        exact ⟨ret_bool (by rw [HV.out, hk2]; rfl), HF4.out⟩
    · have hk1 : (k != 0) = true := by rw [bne_iff_ne]; exact hk
      have hk2 : (k == 0) = false := by rw [beq_eq_false_iff_ne]; exact hk
      go_enter Try.func23, Try.ntmps23
      go_wp2_with (first | (refine wpList_field rfl _ _ rfl _ _ _ rfl _ rfl ?_) | (go_at_call 25; (with_reducible refine HN.out.mono ?_); rintro e w1 ⟨rfl, hF1⟩; have HF1 := Lib.hid hF1; clear hF1) | (go_at_call 38; (with_reducible refine (HC.out _).mono ?_); rintro e w2 ⟨rfl, rfl⟩))
      go_ret
      exact ⟨ret_bool (by rw [HV.out, hk2]; rfl), HF1.out.alloc _⟩
end
end Go.Proofs.Ytoahgblgchmclaa
