/- The words of the laws; the first steps. -/
import Derived.Test.YthgjhpiajjamnaaKG
namespace Go.Proofs.Ythgjhpiajjamnaa
open Go.RowKit
set_option linter.unusedVariables false
set_option linter.unusedSimpArgs false
variable {w0 W W' : World} {P B rd wr : Nat} {l : Bs}

/-- the program's pipe above the blocks of w0. -/
structure PW (w0 W : World) (P : Nat) (l : Bs) (rd wr : Nat) : Prop where
  p : PAt W P l rd wr
  hP : w0.heap.size ≤ P
  bel : Below w0.heap.size w0 W
theorem PW.step {l' : Bs} {rd' wr' : Nat} (h : PW w0 W P l rd wr) (k : PAt W' P l' rd' wr') (f : Fr (· = P) W W') : PW w0 W' P l' rd' wr' :=
  ⟨k, h.hP, f.below h.bel (Nat.le_refl _) fun g hg => by subst hg; exact h.hP⟩
theorem pw_new (h : Below w0.heap.size w0 W) : Calls Try.prog 7 #[] W fun e w' => ∃ P, e = .returned (.pointer (some ⟨P, 0, none⟩)) ∧ PW w0 w' P [] 1 1 :=
  (pa_new W).mono fun e w' ⟨h1, h2, h3⟩ => ⟨_, h1, h2, h.size, h.trans (h3.mono h.size)⟩
theorem pw_join (b : Bool) (h : PW w0 W P l rd wr) (h1 : rd < 1000000) (h2 : wr < 1000000) :
    Calls Try.prog 9 #[.pointer (some ⟨P, 0, none⟩), .bool b] W fun e w' => e = .returned (.tuple #[]) ∧ PW w0 w' P l (if b then rd else rd + 1) (if b then wr + 1 else wr) :=
  (pa_join b W h.p h1 h2).mono fun e w' ⟨e1, e2, e3⟩ => ⟨e1, h.step e2 e3⟩
theorem pw_leave (b : Bool) (h : PW w0 W P l rd wr) (h1 : rd < 1000000) (h2 : wr < 1000000) :
    Calls Try.prog 11 #[.pointer (some ⟨P, 0, none⟩), .bool b] W fun e w' => e = .returned (.bool (decide (0 < if b then wr else rd))) ∧ PW w0 w' P l (if b then rd else rd - 1) (if b then wr - 1 else wr) :=
  (pa_leave b W h.p h1 h2).mono fun e w' ⟨e1, e2, e3⟩ => ⟨e1, h.step e2 e3⟩
theorem pw_state (h : PW w0 W P l rd wr) :
    Calls Try.prog 17 #[.pointer (some ⟨P, 0, none⟩)] W fun e w' => e = .returned (.tuple #[.int .i64 rd, .int .i64 wr, .int .i64 (l.length : Nat)]) ∧ PW w0 w' P l rd wr :=
  (pa_state W h.p).mono fun e w' ⟨e1, e2, e3⟩ => ⟨e1, h.step e2 (e3.mono fun _ _ => False.elim)⟩
theorem pw_write0 (s : ByteArray) (h : PW w0 W P l 0 wr) :
    Calls Try.prog 13 #[.pointer (some ⟨P, 0, none⟩), .string s] W fun e w' => e = .returned (.tuple #[.int .i64 0, .int .i64 14]) ∧ PW w0 w' P l 0 wr :=
  (pa_write0 s W h.p).mono fun e w' ⟨e1, e2, e3⟩ => ⟨e1, h.step e2 e3⟩
theorem pw_write (s : ByteArray) (hs : s.size ≤ maxLen) (h : PW w0 W P l rd wr) (h0 : 0 < rd) (h1 : rd < 1000000) :
    Calls Try.prog 13 #[.pointer (some ⟨P, 0, none⟩), .string s] W fun e w' => e = .returned (.tuple #[.int .i64 ((wrL l s).length : Nat), .int .i64 0]) ∧ PW w0 w' P (l ++ wrL l s) rd wr :=
  (pa_write s hs W h.p h0 h1).mono fun e w' ⟨e1, e2, e3⟩ => ⟨e1, h.step e2 e3⟩
theorem pw_read (N : Int) (h : PW w0 W P l rd wr) :
    Calls Try.prog 15 #[.pointer (some ⟨P, 0, none⟩), .int .i64 N] W fun e w' => e = .returned (.tuple #[.string ⟨(l.take (readK N l.length)).toArray⟩, .bool (endB l.length (readK N l.length) wr)]) ∧ PW w0 w' P (l.drop (readK N l.length)) rd wr :=
  (pa_read N W h.p).mono fun e w' ⟨e1, e2, e3⟩ => ⟨e1, h.step e2 e3⟩
def okSh (w0 : World) (P : Nat) (v : Value) (l : Bs) (rd wr : Nat) (e : Ending) (w' : World) : Prop := e = .returned v ∧ PW w0 w' P l rd wr
theorem sh1 (p : PW w0 W P [] 1 1) : Calls Try.prog 13 #[.pointer (some ⟨P, 0, none⟩), .string ⟨#[97, 98, 99]⟩] W (okSh w0 P (.tuple #[.int .i64 3, .int .i64 0]) [97, 98, 99] 1 1) :=
  (pw_write ⟨#[97, 98, 99]⟩ (by decide) p (by decide) (by decide)).mono fun e w' h => h
theorem sh2 (p : PW w0 W P [97, 98, 99] 1 1) : Calls Try.prog 15 #[.pointer (some ⟨P, 0, none⟩), .int .i64 2] W (okSh w0 P (.tuple #[.string ⟨#[97, 98]⟩, .bool false]) [99] 1 1) :=
  (pw_read 2 p).mono fun e w' h => h
theorem sh3 (p : PW w0 W P [99] 1 1) : Calls Try.prog 11 #[.pointer (some ⟨P, 0, none⟩), .bool true] W (okSh w0 P (.bool true) [99] 1 0) :=
  (pw_leave true p (by decide) (by decide)).mono fun e w' h => h
theorem sh4 (p : PW w0 W P [99] 1 0) : Calls Try.prog 15 #[.pointer (some ⟨P, 0, none⟩), .int .i64 5] W (okSh w0 P (.tuple #[.string ⟨#[99]⟩, .bool true]) [] 1 0) :=
  (pw_read 5 p).mono fun e w' h => h
theorem sh5 (p : PW w0 W P [] 1 0) : Calls Try.prog 11 #[.pointer (some ⟨P, 0, none⟩), .bool false] W (okSh w0 P (.bool true) [] 0 0) :=
  (pw_leave false p (by decide) (by decide)).mono fun e w' h => h
theorem sh6 (p : PW w0 W P [] 0 0) : Calls Try.prog 13 #[.pointer (some ⟨P, 0, none⟩), .string ⟨#[120]⟩] W (okSh w0 P (.tuple #[.int .i64 0, .int .i64 14]) [] 0 0) :=
  (pw_write0 ⟨#[120]⟩ p).mono fun e w' h => h
set_option maxRecDepth 100000 in
theorem shown_any (w : World) : Calls Try.prog 6 #[] w fun e w' => e = .returned (.bool true) ∧ Below w.heap.size w w' := by
  go_enter Try.func6, Try.ntmps6
  go_wp2_with fail
  refine (pw_new (Below.refl w.heap.size w)).mono ?_
  rintro e w1 ⟨P, rfl, p1⟩
  go_wp2_with fail
  refine (sh1 p1).mono ?_
  rintro e w2 ⟨rfl, p2⟩
  clear p1
  go_wp2_with fail
  refine (sh2 p2).mono ?_
  rintro e w3 ⟨rfl, p3⟩
  clear p2
  go_wp2_with fail
  refine (sh3 p3).mono ?_
  rintro e w4 ⟨rfl, p4⟩
  clear p3
  go_wp2_with fail
  refine (sh4 p4).mono ?_
  rintro e w5 ⟨rfl, p5⟩
  clear p4
  go_wp2_with fail
  refine (sh5 p5).mono ?_
  rintro e w6 ⟨rfl, p6⟩
  clear p5
  go_wp2_with fail
  refine (sh6 p6).mono ?_
  rintro e w7 ⟨rfl, p7⟩
  clear p6
  go_wp2
  go_ret
  exact ⟨rfl, p7.bel⟩
end Go.Proofs.Ythgjhpiajjamnaa
