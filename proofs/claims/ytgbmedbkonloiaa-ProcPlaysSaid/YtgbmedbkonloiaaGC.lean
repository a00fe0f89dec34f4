/- What ProcPlays compares; the row that it wipes. -/
import Derived.Test.YtgbmedbkonloiaaFZ
import Derived.Laws.StructEq
namespace Go.Proofs.Ytgbmedbkonloiaa
open Go.RowKit
set_option linter.unusedVariables false
set_option linter.unusedSimpArgs false
theorem eq_pr (a b c d e : Int) (f g : Bool) (w : World) : (Op.equalIn 10000 35 (.agg #[.int .i64 a, .int .i64 b, .int .i64 c, .int .i64 d, .int .i64 e, .bool f, .bool g]) (.agg #[.int .i64 a, .int .i64 b, .int .i64 c, .int .i64 d, .int .i64 e, .bool f, .bool g])).run Try.prog w = .ok true w := by
  have hS : Try.prog.underlying 35 = some (.struct (Try.prog.fieldsOf 35)) := by kernel_rfl
  have hp : Try.prog.stoodInHeld 35 = false := by kernel_rfl
  rw [show (10000 : Nat) = 9999 + 1 from rfl, run_equalIn_agg w 9999 _ _ _ hS hp]
  simp only [Program.fieldsOf, Try.underlying35]
  go_simp
theorem guard_pr (op : BinOp) (a b : Operand) (xs ys : Array Value) (w : World) : (eqGuard op 35 a b (.agg xs) (.agg ys)).run Try.prog w = .ok () w := run_eqGuard_agg w op _ a b _ _ (by kernel_rfl)
section
variable {w0 W W' : World} {T D : Nat} {s d : TB} {K : Nat → Prop} {m : Int}
/-- a process of the row is written whole. -/
theorem row_whole {B g cap n : Nat} {L : List Pr} (h : W.ownsRow B 32 7 (.slice (some ⟨g, 0, none⟩) n cap) n (rowsC L)) (hn : L.length = n) {k : Nat} {p : Pr} (hp : L[k]? = some p) (q : Pr) :
    (W.setCells g (k * 7) (prC q)).ownsRow B 32 7 (.slice (some ⟨g, 0, none⟩) n cap) n (rowsC (L.set k q)) := by
  have hk : k < L.length := (List.getElem?_eq_some_iff.1 hp).1
  have one : ∀ (L : List Pr) (W : World) (p p' : Pr) (j : Nat) (x : Value), L.length = n → L[k]? = some p → j < 7 → prC p' = (prC p).set j x → W.ownsRow B 32 7 (.slice (some ⟨g, 0, none⟩) n cap) n (rowsC L) → (W.setCell ⟨g, k * 7 + j, none⟩ x).ownsRow B 32 7 (.slice (some ⟨g, 0, none⟩) n cap) n (rowsC (L.set k p')) := fun L W p p' j x hl hp hj e ho => by
    rw [rowsC_set L j p p' x hj e k hp]
    exact row_set ho x (by omega)
  have go : ∀ (L : List Pr) (p p' : Pr), L[k]? = some p → (L.set k p')[k]? = some p' := fun L p p' h => set_same h
  obtain ⟨a0, a1, a2, a3, a4, a5, a6⟩ := p
  obtain ⟨b0, b1, b2, b3, b4, b5, b6⟩ := q
  have k0 := one L W ⟨a0, a1, a2, a3, a4, a5, a6⟩ ⟨b0, a1, a2, a3, a4, a5, a6⟩ 0 (.int .i64 b0) hn hp (by decide) rfl h
  have k1 := one _ _ ⟨b0, a1, a2, a3, a4, a5, a6⟩ ⟨b0, b1, a2, a3, a4, a5, a6⟩ 1 (.int .i64 b1) (by rw [List.length_set]; exact hn) (set_same hp) (by decide) rfl k0
  rw [List.set_set] at k1
  have k2 := one _ _ ⟨b0, b1, a2, a3, a4, a5, a6⟩ ⟨b0, b1, b2, a3, a4, a5, a6⟩ 2 (.int .i64 b2) (by rw [List.length_set]; exact hn) (set_same hp) (by decide) rfl k1
  rw [List.set_set] at k2
  have k3 := one _ _ ⟨b0, b1, b2, a3, a4, a5, a6⟩ ⟨b0, b1, b2, b3, a4, a5, a6⟩ 3 (.int .i64 b3) (by rw [List.length_set]; exact hn) (set_same hp) (by decide) rfl k2
  rw [List.set_set] at k3
  have k4 := one _ _ ⟨b0, b1, b2, b3, a4, a5, a6⟩ ⟨b0, b1, b2, b3, b4, a5, a6⟩ 4 (.int .i64 b4) (by rw [List.length_set]; exact hn) (set_same hp) (by decide) rfl k3
  rw [List.set_set] at k4
  have k5 := one _ _ ⟨b0, b1, b2, b3, b4, a5, a6⟩ ⟨b0, b1, b2, b3, b4, b5, a6⟩ 5 (.bool b5) (by rw [List.length_set]; exact hn) (set_same hp) (by decide) rfl k4
  rw [List.set_set] at k5
  have k6 := one _ _ ⟨b0, b1, b2, b3, b4, b5, a6⟩ ⟨b0, b1, b2, b3, b4, b5, b6⟩ 6 (.bool b6) (by rw [List.length_set]; exact hn) (set_same hp) (by decide) rfl k5
  rw [List.set_set] at k6
  exact k6
/-- two processes, an operation and the users as they lie. -/
def sS (g0 g1 g2 D : Nat) (a0 a1 a2 a3 a4 : Int) (a5 a6 : Bool) (b : Int) (v : Value) (w : World) : Prop := w.cell? ⟨g1, 0, none⟩ = some (.int .i64 a0) ∧ w.cell? ⟨g1, 1, none⟩ = some (.int .i64 a1) ∧ w.cell? ⟨g1, 2, none⟩ = some (.int .i64 a2) ∧ w.cell? ⟨g1, 3, none⟩ = some (.int .i64 a3) ∧ w.cell? ⟨g1, 4, none⟩ = some (.int .i64 a4) ∧ w.cell? ⟨g1, 5, none⟩ = some (.bool a5) ∧ w.cell? ⟨g1, 6, none⟩ = some (.bool a6) ∧ w.cell? ⟨g2, 0, none⟩ = some (.int .i64 a0) ∧ w.cell? ⟨g2, 1, none⟩ = some (.int .i64 a1) ∧ w.cell? ⟨g2, 2, none⟩ = some (.int .i64 a2) ∧ w.cell? ⟨g2, 3, none⟩ = some (.int .i64 a3) ∧ w.cell? ⟨g2, 4, none⟩ = some (.int .i64 a4) ∧ w.cell? ⟨g2, 5, none⟩ = some (.bool a5) ∧ w.cell? ⟨g2, 6, none⟩ = some (.bool a6) ∧ w.cell? ⟨g0, 2, none⟩ = some (.int .i64 b) ∧ w.cell? ⟨D, 2, none⟩ = some v
theorem sS_fr {g0 g1 g2 D : Nat} {a0 a1 a2 a3 a4 : Int} {a5 a6 : Bool} {b : Int} {v : Value} (h : sS g0 g1 g2 D a0 a1 a2 a3 a4 a5 a6 b v W) (f : Fr (fun _ => False) W W') : sS g0 g1 g2 D a0 a1 a2 a3 a4 a5 a6 b v W' := by
  obtain ⟨h0, h1, h2, h3, h4, h5, h6, k0, k1, k2, k3, k4, k5, k6, o, u⟩ := h
  exact ⟨f.cell h0 id, f.cell h1 id, f.cell h2 id, f.cell h3 id, f.cell h4 id, f.cell h5 id, f.cell h6 id, f.cell k0 id, f.cell k1 id, f.cell k2 id, f.cell k3 id, f.cell k4 id, f.cell k5 id, f.cell k6 id, f.cell o id, f.cell u id⟩
def plRel (w : World) (T D : Nat) (n : Nat) (iv : Value) (wr : World) : Prop := ∃ (k : Nat) (s : TB), iv = .int .i64 k ∧ k ≤ n ∧ TP (fun _ => False) w wr T D (1 + 2 * k) s s
def wpRel (w : World) (T D : Nat) (m : Int) (s : TB) (v : Value) (B : Nat) (iv : Value) (wr : World) : Prop :=
  ∃ k : Nat, iv = .int .i64 k ∧ k ≤ s.L.length ∧ wr.ownsRow B 32 7 v s.L.length (rowsC (mixK (fun _ => zeroPr) k s.L)) ∧ TP (fun k => v.ownBlock = some k) w wr T D m s s
end
end Go.Proofs.Ytgbmedbkonloiaa
