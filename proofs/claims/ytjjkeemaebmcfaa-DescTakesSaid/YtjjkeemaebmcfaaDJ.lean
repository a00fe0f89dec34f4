/- The words of the laws; the first steps. -/
import Derived.Test.YtjjkeemaebmcfaaDI
namespace Go.Proofs.Ytjjkeemaebmcfaa
open Go.RowKit
set_option linter.unusedVariables false
set_option linter.unusedSimpArgs false
variable {w0 W W' : World} {P B : Nat} {e : Tab}

/-- the program's table above the blocks of w0. -/
structure PT (w0 W : World) (P : Nat) (e : Tab) : Prop where
  t : TB 63 W P e
  hP : w0.heap.size ≤ P
  bel : Below w0.heap.size w0 W
theorem PT.step {e' : Tab} (h : PT w0 W P e) (k : TB 63 W' P e') (f : Fr (· = P) W W') : PT w0 W' P e' :=
  ⟨k, h.hP, f.below h.bel (Nat.le_refl _) fun g hg => by subst hg; exact h.hP⟩
theorem PT.same (h : PT w0 W P e) (f : Fr (fun _ => False) W W') : PT w0 W' P e :=
  h.step (h.t.fr f id) (f.mono fun _ _ => False.elim)
theorem pt_new (h : Below w0.heap.size w0 W) : Calls Try.prog 9 #[] W fun r w' => ∃ P, r = .returned (.pointer (some ⟨P, 0, none⟩)) ∧ PT w0 w' P emptyT :=
  (pnew_any W).mono fun r w' ⟨h1, h2, h3⟩ => ⟨_, h1, h2, h.size, h.trans (h3.mono h.size)⟩
theorem pt_open (d : Ent) (h : PT w0 W P e) : Calls Try.prog 10 #[.pointer (some ⟨P, 0, none⟩), .agg d.desc.toArray] W fun r w' => r = .returned (.tuple #[.int .i64 (openN e d), .int .i64 (openX e d)]) ∧ PT w0 w' P (openT e d) :=
  (popen_any d W h.t).mono fun r w' ⟨h1, h2, h3⟩ => ⟨h1, h.step h2 h3⟩
theorem pt_hold (n : Int) (h : PT w0 W P e) (hb : (e n.toNat).n < 1000000) : Calls Try.prog 14 #[.pointer (some ⟨P, 0, none⟩), .int .i64 n] W fun r w' => r = .returned (.bool (isE e n)) ∧ PT w0 w' P (holdT e n) :=
  (phold_any n W h.t hb).mono fun r w' ⟨h1, h2, h3⟩ => ⟨h1, h.step h2 h3⟩
theorem pt_drop (n : Int) (h : PT w0 W P e) (hb : (e n.toNat).n < 1000000) : Calls Try.prog 16 #[.pointer (some ⟨P, 0, none⟩), .int .i64 n] W fun r w' => r = .returned (.tuple #[.agg (dropA e n).desc.toArray, .bool (dropB e n)]) ∧ PT w0 w' P (dropP e n) :=
  (pdrop_any n W h.t hb).mono fun r w' ⟨h1, h2, h3⟩ => ⟨h1, h.step h2 h3⟩
theorem pt_seek (n a : Int) (h : PT w0 W P e) : Calls Try.prog 12 #[.pointer (some ⟨P, 0, none⟩), .int .i64 n, .int .i64 a] W fun r w' => r = .returned (.bool (seekB e n a)) ∧ PT w0 w' P (seekT e n a) :=
  (pseek_any n a W h.t).mono fun r w' ⟨h1, h2, h3⟩ => ⟨h1, h.step h2 h3⟩
theorem pt_get (n : Int) (h : PT w0 W P e) : Calls Try.prog 18 #[.pointer (some ⟨P, 0, none⟩), .int .i64 n] W fun r w' => r = .returned (.tuple #[.agg (getA e n).desc.toArray, .bool (isE e n)]) ∧ PT w0 w' P e ∧ Fr (fun _ => False) W w' :=
  (pget_any n W h.t).mono fun r w' ⟨h1, h2⟩ => ⟨h1, h.same h2, h2⟩
theorem pt_held (n : Int) (h : PT w0 W P e) : Calls Try.prog 20 #[.pointer (some ⟨P, 0, none⟩), .int .i64 n] W fun r w' => r = .returned (.int .i64 (heldA e n : Nat)) ∧ W = w' :=
  pheld_any n W h.t
def D0 : Ent := ⟨2, 3, 0, false, 0, 0⟩
def T1 : Tab := openT emptyT D0
def T2 : Tab := holdT T1 0
def T3 : Tab := dropP T2 0
def T4 : Tab := dropP T3 0
def okSh (w0 : World) (P : Nat) (v : Value) (e : Tab) (r : Ending) (w' : World) : Prop := r = .returned v ∧ PT w0 w' P e
theorem sh1 (p : PT w0 W P emptyT) : Calls Try.prog 10 #[.pointer (some ⟨P, 0, none⟩), .agg #[.int .i64 2, .int .i64 3, .int .i64 0, .bool false, .int .i64 0]] W (okSh w0 P (.tuple #[.int .i64 0, .int .i64 0]) T1) :=
  (pt_open D0 p).mono fun r w' h => h
theorem sh2 (p : PT w0 W P T1) : Calls Try.prog 14 #[.pointer (some ⟨P, 0, none⟩), .int .i64 0] W (okSh w0 P (.bool true) T2) :=
  (pt_hold 0 p (by decide)).mono fun r w' h => h
theorem sh3 (p : PT w0 W P T2) : Calls Try.prog 16 #[.pointer (some ⟨P, 0, none⟩), .int .i64 0] W (okSh w0 P (.tuple #[.agg #[.int .i64 0, .int .i64 0, .int .i64 0, .bool false, .int .i64 0], .bool false]) T3) :=
  (pt_drop 0 p (by decide)).mono fun r w' h => h
theorem sh4 (p : PT w0 W P T3) : Calls Try.prog 16 #[.pointer (some ⟨P, 0, none⟩), .int .i64 0] W (okSh w0 P (.tuple #[.agg #[.int .i64 2, .int .i64 3, .int .i64 0, .bool false, .int .i64 0], .bool true]) T4) :=
  (pt_drop 0 p (by decide)).mono fun r w' h => h
theorem sh5 (b : Below w0.heap.size w0 W) : Calls Try.prog 32 #[] W fun r w' => ∃ G, r = .returned (.slice (some ⟨G, 0, none⟩) 20 20) ∧ OR w' w0.heap.size G 20 20 (List.replicate 20 (-1)) ∧ Below w0.heap.size w0 w' ∧ Fr (fun _ => False) W w' :=
  (row_any W).mono fun r w' ⟨h1, h2, h3⟩ => ⟨_, h1, h2.weak b.size, h3.below b (Nat.le_refl _) fun _ => False.elim, h3⟩
theorem sh6 {G : Nat} (o : OR W w0.heap.size G 20 20 (List.replicate 20 (-1))) (b : Below w0.heap.size w0 W) :
    Calls Try.prog 23 #[.slice (some ⟨G, 0, none⟩) 20 20, .int .i64 7, .int .i64 0] W fun r w' => ∃ H cap, r = .returned (.tuple #[.slice (some ⟨H, 0, none⟩) 20 cap, .int .i64 0, .int .i64 0]) ∧ OR w' w0.heap.size H cap 20 (7 :: List.replicate 19 (-1)) ∧ Below w0.heap.size w0 w' ∧ Fr (fun _ => False) W w' :=
  (pput_any (List.replicate 20 (-1)) G 0 20 20 7 0 rfl (by decide) W o.rd).mono fun r w' ⟨v, h1, h2, h3⟩ => by
    rcases h2 with ⟨h2, _⟩ | ⟨l, H, cap, h2, rfl, h4⟩
    · exact absurd h2 (by decide)
    · have : l = 7 :: List.replicate 19 (-1) := by
        have h5 : putO (List.replicate 20 (-1)) 7 0 = some (7 :: List.replicate 19 (-1)) := by decide
        rw [h5] at h2; exact (Option.some.inj h2).symm
      subst this
      exact ⟨H, cap, h1, h4.weak b.size, h3.below b (Nat.le_refl _) fun _ => False.elim, h3⟩
theorem sh7 {G cap : Nat} (o : OR W w0.heap.size G cap 20 (7 :: List.replicate 19 (-1))) (b : Below w0.heap.size w0 W) :
    Calls Try.prog 28 #[.slice (some ⟨G, 0, none⟩) 20 cap, .int .i64 0, .int .i64 2] W fun r w' => ∃ H cap, r = .returned (.tuple #[.slice (some ⟨H, 0, none⟩) 20 cap, .int .i64 (-1), .int .i64 0]) ∧ OR w' w0.heap.size H cap 20 (7 :: -1 :: 7 :: List.replicate 17 (-1)) ∧ Below w0.heap.size w0 w' ∧ Fr (fun _ => False) W w' :=
  (pto_any (7 :: List.replicate 19 (-1)) G 0 20 cap 0 2 rfl (by decide) W o.rd).mono fun r w' ⟨v, h1, h2, h3⟩ => by
    rcases h2 with ⟨h2, _⟩ | ⟨l, H, cap, h2, rfl, h4⟩
    · exact absurd h2 (by decide)
    · have : l = 7 :: -1 :: 7 :: List.replicate 17 (-1) := by
        have h5 : toO (7 :: List.replicate 19 (-1)) 0 2 = some (7 :: -1 :: 7 :: List.replicate 17 (-1)) := by decide
        rw [h5] at h2; exact (Option.some.inj h2).symm
      subst this
      exact ⟨H, cap, h1, h4.weak b.size, h3.below b (Nat.le_refl _) fun _ => False.elim, h3⟩
set_option maxRecDepth 100000 in
theorem shown_any (w : World) : Calls Try.prog 8 #[] w fun r w' => r = .returned (.bool true) ∧ Below w.heap.size w w' := by
  go_enter Try.func8, Try.ntmps8
  go_wp2_with fail
  refine (pt_new (Below.refl w.heap.size w)).mono ?_
  rintro r w1 ⟨P, rfl, p1⟩
  go_wp2_with fail
  refine (sh1 p1).mono ?_
  rintro r w2 ⟨rfl, p2⟩
  clear p1
  go_wp2_with fail
  refine (sh2 p2).mono ?_
  rintro r w3 ⟨rfl, p3⟩
  clear p2
  go_wp2_with fail
  refine (sh3 p3).mono ?_
  rintro r w4 ⟨rfl, p4⟩
  clear p3
  go_wp2_with fail
  refine (sh4 (p4.same ((Fr.refl _ _).alloc _))).mono ?_
  rintro r w5 ⟨rfl, p5⟩
  clear p4
  go_wp2_with fail
  have y := lay_desc w5 28 D0 1 (.int .i64 3) rfl
  have y2 : w5.heap.size < (w5.alloc (.cells D0.desc.toArray 28)).heap.size := by simp
  refine (sh5 (p5.same ((Fr.refl _ _).alloc _)).bel).mono ?_
  rintro r w6 ⟨G, rfl, o6, b6, f6⟩
  replace y := f6.cell y id
  clear p5 f6
  go_wp2_with fail
  refine (sh6 o6 b6).mono ?_
  rintro r w7 ⟨G7, c7, rfl, o7, b7, f7⟩
  replace y := f7.cell y id
  clear o6 b6 f7
  go_wp2_with fail
  refine (sh7 o7 b7).mono ?_
  rintro r w8 ⟨G8, c8, rfl, o8, b8, f8⟩
  replace y := f8.cell y id
  clear f8
  have x0 : w8.cell? ⟨G8, 0, none⟩ = some (.int .i64 7) := o8.rd 0 7 rfl
  have x2 : w8.cell? ⟨G8, 2, none⟩ = some (.int .i64 7) := o8.rd 2 7 rfl
  clear o7 b7 o8
  go_wp2
  go_ret
  exact ⟨rfl, b8⟩
end Go.Proofs.Ytjjkeemaebmcfaa
