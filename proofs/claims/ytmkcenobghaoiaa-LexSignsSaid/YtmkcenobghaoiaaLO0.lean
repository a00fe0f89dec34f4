/- The document's answer: part. -/
import Derived.Test.YtmkcenobghaoiaaLM
namespace Go.Proofs.Ytmkcenobghaoiaa
open Go.RowKit
set_option linter.unusedVariables false
set_option linter.unusedSimpArgs false
theorem pick_esc : ∀ q b1 b2 b3 b4 b5 b6 b7, pick q b1 b2 b3 b4 b5 b6 b7 = some .esc → b1 = true := by decide
theorem pick_sq : ∀ q b1 b2 b3 b4 b5 b6 b7, pick q b1 b2 b3 b4 b5 b6 b7 = some .sq → b2 = true ∧ q = false := by decide
theorem pick_dq : ∀ q b1 b2 b3 b4 b5 b6 b7, pick q b1 b2 b3 b4 b5 b6 b7 = some .dq → b3 = true ∧ q = false := by decide
theorem pick_ar : ∀ q b1 b2 b3 b4 b5 b6 b7, pick q b1 b2 b3 b4 b5 b6 b7 = some .ar → b4 = true := by decide
theorem pick_su : ∀ q b1 b2 b3 b4 b5 b6 b7, pick q b1 b2 b3 b4 b5 b6 b7 = some .su → b4 = false ∧ b5 = true := by decide
theorem pick_pa : ∀ q b1 b2 b3 b4 b5 b6 b7, pick q b1 b2 b3 b4 b5 b6 b7 = some .pa → b4 = false ∧ b5 = false ∧ b6 = true := by decide
theorem pick_gr : ∀ q b1 b2 b3 b4 b5 b6 b7, pick q b1 b2 b3 b4 b5 b6 b7 = some .gr → b7 = true := by decide
theorem pick_none1 : ∀ q b1 b2 b3 b4 b5 b6 b7, pick q b1 b2 b3 b4 b5 b6 b7 = none → b1 = false ∧ b5 = false := by decide
theorem pick_none2 : ∀ q b1 b2 b3 b4 b5 b6 b7, pick q b1 b2 b3 b4 b5 b6 b7 = none → b6 = false ∧ b7 = false := by decide
theorem pick_none3 : ∀ q b1 b2 b3 b4 b5 b6 b7, pick q b1 b2 b3 b4 b5 b6 b7 = none → (q = true ∨ (b2 = false ∧ b3 = false)) := by decide
theorem pick_none {q b1 b2 b3 b4 b5 b6 b7 : Bool} (h : pick q b1 b2 b3 b4 b5 b6 b7 = none) : b1 = false ∧ b5 = false ∧ b6 = false ∧ b7 = false ∧ (q = true ∨ (b2 = false ∧ b3 = false)) :=
  ⟨(pick_none1 _ _ _ _ _ _ _ _ h).1, (pick_none1 _ _ _ _ _ _ _ _ h).2, (pick_none2 _ _ _ _ _ _ _ _ h).1, (pick_none2 _ _ _ _ _ _ _ _ h).2, pick_none3 _ _ _ _ _ _ _ _ h⟩
theorem pre_head' {c : UInt8} {p : Bs} {s : ByteArray} (h0 : 0 < s.size) (h : pre (c :: p) s.data.toList = true) : s[0] = c := by
  obtain ⟨r, hr⟩ := head_byte h0
  rw [hr] at h
  unfold pre at h
  rw [List.isPrefixOf_iff_prefix, List.cons_prefix_cons] at h
  exact h.1.symm
theorem pre_no {c : UInt8} {s : ByteArray} (h0 : 0 < s.size) (h : pre [c] s.data.toList = false) : ¬ s[0] = c := by
  obtain ⟨r, hr⟩ := head_byte h0
  rw [hr, pre_one] at h
  simpa using h
theorem pre_sub {l : Bs} (h : pre [36, 40, 40] l = true) : pre [36, 40] l = true := by
  unfold pre at h ⊢
  rw [List.isPrefixOf_iff_prefix] at h ⊢
  exact List.IsPrefix.trans ⟨[40], rfl⟩ h
theorem pre_len {p l : Bs} (h : pre p l = true) : p.length ≤ l.length := by
  unfold pre at h
  rw [List.isPrefixOf_iff_prefix] at h
  exact h.length_le
theorem beg_call (x : ByteArray) (p : Bs) (v : Bool) (hv : pre p x.data.toList = v) (hs : x.size ≤ maxLen) (hp : p.length ≤ 100) (w : World) :
    Calls Try.prog 14 #[.string x, .string (st p)] w fun e w' => e = .returned (.bool v) ∧ w' = w := by
  have := rbegins_any x (st p) hs (by rw [st_size]; unfold maxLen; omega) w
  rw [st_data, hv] at this
  exact this
theorem nonempty_of {x : ByteArray} {q : Bool} {k : Kd} {l : Bs} {b : Nat} (hx : x.data.toList = l.drop b) (hk : kd q (l.drop b) = some k) : 0 < x.size := by
  rw [← hx] at hk
  have := kd_len _ _ _ hk
  rw [size_len] at this
  have h1 : 0 < (kb (some k)).length := by cases k <;> simp [kb]
  omega
theorem ne_list {x : ByteArray} (h : 0 < x.size) : ((x.toList == []) : Bool) = false := by
  rw [ByteArray.toList_eq, beq_eq_false_iff_ne]
  intro e
  have := size_len x
  rw [e] at this
  simp at this
  omega
theorem yes_list {x : ByteArray} (h : x.size = 0) : ((x.toList == []) : Bool) = true := by
  rw [ByteArray.toList_eq, beq_iff_eq]
  have := size_len x
  exact List.length_eq_zero_iff.1 (by omega)
def lpRel (W : World) (x : ByteArray) (b : Nat) (F : Bs → Option Nat) (r : R) (iv : Value) (wr : World) : Prop :=
  ∃ i : Nat, iv = .int .i64 i ∧ EKP wr W.heap.size 0 false false 0 ∧ Fr (fun _ => False) W wr ∧ i ≤ x.size + 1 ∧ lift (b + i) (F (x.data.toList.drop i)) = r
def arpRel (W : World) (x : ByteArray) (b : Nat) (r : R) (ov iv : Value) (wr : World) : Prop :=
  ∃ o i : Nat, ov = .int .i64 o ∧ iv = .int .i64 i ∧ EKP wr W.heap.size 0 false false 0 ∧ Fr (fun _ => False) W wr ∧ i ≤ x.size ∧ o ≤ i ∧ lift (b + i) (ari o (x.data.toList.drop i)) = r
end Go.Proofs.Ytmkcenobghaoiaa
