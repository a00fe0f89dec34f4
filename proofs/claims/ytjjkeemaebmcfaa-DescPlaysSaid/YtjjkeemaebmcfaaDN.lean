/- Both tables in memory: the words of DescPlays. -/
import Derived.Test.YtjjkeemaebmcfaaDM
import Derived.Laws.StructEq
namespace Go.Proofs.Ytjjkeemaebmcfaa
open Go.RowKit
set_option linter.unusedVariables false
set_option linter.unusedSimpArgs false
variable {w0 W W' : World} {P B : Nat} {e e' : Tab}

theorem eq_desc (a b c : Int) (d : Bool) (f : Int) (w : World) : (Op.equalIn 10000 28 (.agg #[.int .i64 a, .int .i64 b, .int .i64 c, .bool d, .int .i64 f]) (.agg #[.int .i64 a, .int .i64 b, .int .i64 c, .bool d, .int .i64 f])).run Try.prog w = .ok true w := by
  have hS : Try.prog.underlying 28 = some (.struct (Try.prog.fieldsOf 28)) := by kernel_rfl
  have hp : Try.prog.stoodInHeld 28 = false := by kernel_rfl
  rw [show (10000 : Nat) = 9999 + 1 from rfl, run_equalIn_agg w 9999 _ _ _ hS hp]
  simp only [Program.fieldsOf, Try.underlying28]
  go_simp
theorem guard_desc (op : BinOp) (a b : Operand) (xs ys : Array Value) (w : World) : (eqGuard op 28 a b (.agg xs) (.agg ys)).run Try.prog w = .ok () w := run_eqGuard_agg w op _ a b _ _ (by kernel_rfl)
/-- the same descriptions, held as often. -/
def Eqv (e e' : Tab) : Prop := ∀ i, (e i).n = (e' i).n ∧ (0 < (e i).n → e i = e' i)
theorem Eqv.is (h : Eqv e e') (n : Int) : isE e' n = isE e n := by unfold isE; rw [(h n.toNat).1]
theorem Eqv.get (h : Eqv e e') (n : Int) : getA e' n = getA e n := by
  unfold getA
  rw [h.is n]
  cases hi : isE e n
  · rfl
  · obtain ⟨k, rfl, hk, hn⟩ := isE_true hi
    exact ((h k).2 hn).symm
theorem Eqv.held (h : Eqv e e') (n : Int) : heldA e' n = heldA e n := by unfold heldA; rw [h.is n, (h n.toNat).1]
theorem Eqv.seekB (h : Eqv e e') (n a : Int) : Go.Proofs.Ytjjkeemaebmcfaa.seekB e' n a = Go.Proofs.Ytjjkeemaebmcfaa.seekB e n a := by unfold Go.Proofs.Ytjjkeemaebmcfaa.seekB; rw [h.is n]
theorem Eqv.upd (h : Eqv e e') (k : Nat) (x x' : Ent) (hn : x.n = x'.n) (hx : 0 < x.n → x = x') : Eqv (Go.Proofs.Ytjjkeemaebmcfaa.upd e k x) (Go.Proofs.Ytjjkeemaebmcfaa.upd e' k x') := by
  intro i
  unfold Go.Proofs.Ytjjkeemaebmcfaa.upd
  by_cases ei : i = k
  · rw [if_pos ei, if_pos ei]; exact ⟨hn, hx⟩
  · rw [if_neg ei, if_neg ei]; exact h i
theorem Eqv.seekT (h : Eqv e e') (n a : Int) : Eqv (Go.Proofs.Ytjjkeemaebmcfaa.seekT e n a) (Go.Proofs.Ytjjkeemaebmcfaa.seekT e' n a) := by
  unfold Go.Proofs.Ytjjkeemaebmcfaa.seekT
  rw [h.seekB n a]
  cases hb : Go.Proofs.Ytjjkeemaebmcfaa.seekB e n a
  · exact h
  · simp only [if_true]
    exact h.upd _ _ _ (h n.toNat).1 (fun k => by rw [(h n.toNat).2 k])
theorem Eqv.holdT (h : Eqv e e') (n : Int) : Eqv (Go.Proofs.Ytjjkeemaebmcfaa.holdT e n) (Go.Proofs.Ytjjkeemaebmcfaa.holdT e' n) := by
  unfold Go.Proofs.Ytjjkeemaebmcfaa.holdT
  rw [h.is n]
  cases hb : isE e n
  · exact h
  · simp only [if_true]
    obtain ⟨k, rfl, hk, hn⟩ := isE_true hb
    rw [Int.toNat_natCast, (h k).2 hn]
    exact h.upd _ _ _ rfl (fun _ => rfl)
theorem Eqv.dropB (h : Eqv e e') (n : Int) : Go.Proofs.Ytjjkeemaebmcfaa.dropB e' n = Go.Proofs.Ytjjkeemaebmcfaa.dropB e n := by unfold Go.Proofs.Ytjjkeemaebmcfaa.dropB; rw [h.is n, (h n.toNat).1]
theorem Eqv.dropA (h : Eqv e e') (n : Int) : Go.Proofs.Ytjjkeemaebmcfaa.dropA e' n = Go.Proofs.Ytjjkeemaebmcfaa.dropA e n := by
  unfold Go.Proofs.Ytjjkeemaebmcfaa.dropA
  rw [h.dropB n]
  cases hb : Go.Proofs.Ytjjkeemaebmcfaa.dropB e n
  · rfl
  · have hi : isE e n = true := by
      unfold Go.Proofs.Ytjjkeemaebmcfaa.dropB at hb
      cases hi : isE e n
      · rw [hi] at hb; cases hb
      · rfl
    obtain ⟨k, rfl, hk, hn⟩ := isE_true hi
    exact ((h k).2 hn).symm
theorem Eqv.dropT (h : Eqv e e') (n : Int) : Eqv (dropP e n) (dropR e' n) := by
  unfold dropP dropR decT
  rw [h.is n]
  cases hb : isE e n
  · exact h
  · simp only [if_true]
    obtain ⟨k, rfl, hk, hn⟩ := isE_true hb
    rw [Int.toNat_natCast]
    cases hd : Go.Proofs.Ytjjkeemaebmcfaa.dropB e (k : Int)
    · simp only [Bool.false_eq_true, if_false]
      rw [(h k).2 hn]
      exact h.upd _ _ _ rfl (fun _ => rfl)
    · simp only [if_true]
      have h1 : (e k).n = 1 := by
        unfold Go.Proofs.Ytjjkeemaebmcfaa.dropB at hd
        rw [hb, Int.toNat_natCast] at hd
        simpa using hd
      refine h.upd _ _ _ ?_ (fun k => absurd k (by decide))
      show 0 = (e' k).n - 1
      rw [← (h k).1, h1]
theorem Eqv.ffr (h : Eqv e e') : ∀ m, Go.Proofs.Ytjjkeemaebmcfaa.ffr e' m = Go.Proofs.Ytjjkeemaebmcfaa.ffr e m
  | 0 => rfl
  | m + 1 => by unfold Go.Proofs.Ytjjkeemaebmcfaa.ffr; rw [(h (59 - m)).1, Eqv.ffr h m]
theorem Eqv.ff (h : Eqv e e') : Go.Proofs.Ytjjkeemaebmcfaa.ff e' = Go.Proofs.Ytjjkeemaebmcfaa.ff e := h.ffr 60
theorem Eqv.openN (h : Eqv e e') (d : Ent) : Go.Proofs.Ytjjkeemaebmcfaa.openN e' d = Go.Proofs.Ytjjkeemaebmcfaa.openN e d := by unfold Go.Proofs.Ytjjkeemaebmcfaa.openN; rw [h.ff]
theorem Eqv.openX (h : Eqv e e') (d : Ent) : Go.Proofs.Ytjjkeemaebmcfaa.openX e' d = Go.Proofs.Ytjjkeemaebmcfaa.openX e d := by unfold Go.Proofs.Ytjjkeemaebmcfaa.openX; rw [h.ff]
theorem Eqv.openT (h : Eqv e e') (d : Ent) : Eqv (Go.Proofs.Ytjjkeemaebmcfaa.openT e d) (Go.Proofs.Ytjjkeemaebmcfaa.openT e' d) := by
  unfold Go.Proofs.Ytjjkeemaebmcfaa.openT
  rw [h.ff]
  split
  · exact h.upd _ _ _ rfl (fun _ => rfl)
  · exact h
def Bnd (e : Tab) (m : Nat) : Prop := ∀ i, (e i).n ≤ m
theorem Bnd.upd {m m' : Nat} (h : Bnd e m) (hm : m ≤ m') (k : Nat) (x : Ent) (hx : x.n ≤ m') : Bnd (Go.Proofs.Ytjjkeemaebmcfaa.upd e k x) m' := by
  intro i
  unfold Go.Proofs.Ytjjkeemaebmcfaa.upd
  split
  · exact hx
  · exact Nat.le_trans (h i) hm
theorem Bnd.more {m m' : Nat} (h : Bnd e m) (hm : m ≤ m') : Bnd e m' := fun i => Nat.le_trans (h i) hm
theorem Bnd.openT {m : Nat} (h : Bnd e m) (d : Ent) : Bnd (Go.Proofs.Ytjjkeemaebmcfaa.openT e d) (m + 1) := by
  unfold Go.Proofs.Ytjjkeemaebmcfaa.openT
  split
  · exact h.upd (by omega) _ _ (by show 1 ≤ _; omega)
  · exact h.more (by omega)
theorem Bnd.seekT {m : Nat} (h : Bnd e m) (n a : Int) : Bnd (Go.Proofs.Ytjjkeemaebmcfaa.seekT e n a) (m + 1) := by
  unfold Go.Proofs.Ytjjkeemaebmcfaa.seekT
  split
  · exact h.upd (by omega) _ _ (by have := h n.toNat; show (e n.toNat).n ≤ _; omega)
  · exact h.more (by omega)
theorem Bnd.holdT {m : Nat} (h : Bnd e m) (n : Int) : Bnd (Go.Proofs.Ytjjkeemaebmcfaa.holdT e n) (m + 1) := by
  unfold Go.Proofs.Ytjjkeemaebmcfaa.holdT
  split
  · exact h.upd (by omega) _ _ (by have := h n.toNat; show (e n.toNat).n + 1 ≤ _; omega)
  · exact h.more (by omega)
theorem Bnd.dropP {m : Nat} (h : Bnd e m) (n : Int) : Bnd (Go.Proofs.Ytjjkeemaebmcfaa.dropP e n) (m + 1) := by
  unfold Go.Proofs.Ytjjkeemaebmcfaa.dropP decT
  split
  · split
    · exact h.upd (by omega) _ _ (Nat.zero_le _)
    · exact h.upd (by omega) _ _ (by have := h n.toNat; show (e n.toNat).n - 1 ≤ _; omega)
  · exact h.more (by omega)
abbrev FD (P B : Nat) := Fr (fun g => g = P ∨ g = B)
/-- both tables above the blocks of w0. -/
structure DW (w0 W : World) (P B : Nat) (e e' : Tab) : Prop where
  p : TB 63 W P e
  r : TB 33 W B e'
  ne : P ≠ B
  hP : w0.heap.size ≤ P
  hB : w0.heap.size ≤ B
  bel : Below w0.heap.size w0 W
theorem DW.stepP {e2 : Tab} (h : DW w0 W P B e e') (k : TB 63 W' P e2) (f : Fr (· = P) W W') : DW w0 W' P B e2 e' ∧ FD P B W W' :=
  ⟨⟨k, h.r.fr f (Ne.symm h.ne), h.ne, h.hP, h.hB, f.below h.bel (Nat.le_refl _) fun g hg => by subst hg; exact h.hP⟩, f.mono fun g _ hg => .inl hg⟩
theorem DW.stepR {e2 : Tab} (h : DW w0 W P B e e') (k : TB 33 W' B e2) (f : Fr (· = B) W W') : DW w0 W' P B e e2 ∧ FD P B W W' :=
  ⟨⟨h.p.fr f h.ne, k, h.ne, h.hP, h.hB, f.below h.bel (Nat.le_refl _) fun g hg => by subst hg; exact h.hB⟩, f.mono fun g _ hg => .inr hg⟩
theorem DW.same (h : DW w0 W P B e e') (f : Fr (fun _ => False) W W') : DW w0 W' P B e e' :=
  ⟨h.p.fr f id, h.r.fr f id, h.ne, h.hP, h.hB, f.below h.bel (Nat.le_refl _) fun _ => False.elim⟩
theorem FD.still (f : Fr (fun _ => False) W W') : FD P B W W' := f.mono fun _ _ => False.elim
theorem dp_open (d : Ent) (h : DW w0 W P B e e') : Calls Try.prog 10 #[.pointer (some ⟨P, 0, none⟩), .agg d.desc.toArray] W fun r w' => r = .returned (.tuple #[.int .i64 (openN e d), .int .i64 (openX e d)]) ∧ DW w0 w' P B (openT e d) e' ∧ FD P B W w' :=
  (popen_any d W h.p).mono fun r w' ⟨h1, h2, h3⟩ => ⟨h1, h.stepP h2 h3⟩
theorem dr_open (d : Ent) (h : DW w0 W P B e e') : Calls Try.prog 11 #[.pointer (some ⟨B, 0, none⟩), .agg d.desc.toArray] W fun r w' => r = .returned (.tuple #[.int .i64 (openN e' d), .int .i64 (openX e' d)]) ∧ DW w0 w' P B e (openT e' d) ∧ FD P B W w' :=
  (ropen_any d W h.r).mono fun r w' ⟨h1, h2, h3⟩ => ⟨h1, h.stepR h2 h3⟩
theorem dp_seek (n a : Int) (h : DW w0 W P B e e') : Calls Try.prog 12 #[.pointer (some ⟨P, 0, none⟩), .int .i64 n, .int .i64 a] W fun r w' => r = .returned (.bool (seekB e n a)) ∧ DW w0 w' P B (seekT e n a) e' ∧ FD P B W w' :=
  (pseek_any n a W h.p).mono fun r w' ⟨h1, h2, h3⟩ => ⟨h1, h.stepP h2 h3⟩
theorem dr_seek (n a : Int) (h : DW w0 W P B e e') : Calls Try.prog 13 #[.pointer (some ⟨B, 0, none⟩), .int .i64 n, .int .i64 a] W fun r w' => r = .returned (.bool (seekB e' n a)) ∧ DW w0 w' P B e (seekT e' n a) ∧ FD P B W w' :=
  (rseek_any n a W h.r).mono fun r w' ⟨h1, h2, h3⟩ => ⟨h1, h.stepR h2 h3⟩
theorem dp_hold (n : Int) (h : DW w0 W P B e e') (hb : (e n.toNat).n < 1000000) : Calls Try.prog 14 #[.pointer (some ⟨P, 0, none⟩), .int .i64 n] W fun r w' => r = .returned (.bool (isE e n)) ∧ DW w0 w' P B (holdT e n) e' ∧ FD P B W w' :=
  (phold_any n W h.p hb).mono fun r w' ⟨h1, h2, h3⟩ => ⟨h1, h.stepP h2 h3⟩
theorem dr_hold (n : Int) (h : DW w0 W P B e e') (hb : (e' n.toNat).n < 1000000) : Calls Try.prog 15 #[.pointer (some ⟨B, 0, none⟩), .int .i64 n] W fun r w' => r = .returned (.bool (isE e' n)) ∧ DW w0 w' P B e (holdT e' n) ∧ FD P B W w' :=
  (rhold_any n W h.r hb).mono fun r w' ⟨h1, h2, h3⟩ => ⟨h1, h.stepR h2 h3⟩
theorem dp_drop (n : Int) (h : DW w0 W P B e e') (hb : (e n.toNat).n < 1000000) : Calls Try.prog 16 #[.pointer (some ⟨P, 0, none⟩), .int .i64 n] W fun r w' => r = .returned (.tuple #[.agg (dropA e n).desc.toArray, .bool (dropB e n)]) ∧ DW w0 w' P B (dropP e n) e' ∧ FD P B W w' :=
  (pdrop_any n W h.p hb).mono fun r w' ⟨h1, h2, h3⟩ => ⟨h1, h.stepP h2 h3⟩
theorem dr_drop (n : Int) (h : DW w0 W P B e e') (hb : (e' n.toNat).n < 1000000) : Calls Try.prog 17 #[.pointer (some ⟨B, 0, none⟩), .int .i64 n] W fun r w' => r = .returned (.tuple #[.agg (dropA e' n).desc.toArray, .bool (dropB e' n)]) ∧ DW w0 w' P B e (dropR e' n) ∧ FD P B W w' :=
  (rdrop_any n W h.r hb).mono fun r w' ⟨h1, h2, h3⟩ => ⟨h1, h.stepR h2 h3⟩
theorem dp_get (n : Int) (h : DW w0 W P B e e') : Calls Try.prog 18 #[.pointer (some ⟨P, 0, none⟩), .int .i64 n] W fun r w' => r = .returned (.tuple #[.agg (getA e n).desc.toArray, .bool (isE e n)]) ∧ DW w0 w' P B e e' ∧ FD P B W w' :=
  (pget_any n W h.p).mono fun r w' ⟨h1, h2⟩ => ⟨h1, h.same h2, FD.still h2⟩
theorem dr_get (n : Int) (h : DW w0 W P B e e') : Calls Try.prog 19 #[.pointer (some ⟨B, 0, none⟩), .int .i64 n] W fun r w' => r = .returned (.tuple #[.agg (getA e' n).desc.toArray, .bool (isE e' n)]) ∧ DW w0 w' P B e e' ∧ FD P B W w' :=
  (rget_any n W h.r).mono fun r w' ⟨h1, h2⟩ => ⟨h1, h.same h2, FD.still h2⟩
theorem FD.cell {G o : Nat} {v : Value} (h : FD P B W W') (hc : W.cell? ⟨G, o, none⟩ = some v) (h1 : G ≠ P) (h2 : G ≠ B) : W'.cell? ⟨G, o, none⟩ = some v :=
  Fr.cell h hc (fun e => e.elim h1 h2)
theorem rtab_new (w : World) : ∃ Z : Array Value, Z.size = 360 ∧ (∀ w, (zeroValue 33).run Try.prog w = .ok (.agg Z) w) ∧ ∀ w : World, TB 33 (w.alloc (.cells Z 33)) w.heap.size emptyT := zeroT 33 zeroR
end Go.Proofs.Ytjjkeemaebmcfaa
