/- LM, LMm: several texts in one. -/
import Derived.Deep.RegionHeld3
import Derived.Test.YtnjfnjkpehgenaaM18

/- Contract of a step of chapter 6's laws on both trees: both answer the same. Written by wip/tools/genLM.py. -/
namespace Go.Proofs.Ytnjfnjkpehgenaa
open Go.RowKit Ino Go.Maps
set_option linter.unusedVariables false
set_option linter.unusedSimpArgs false

variable {w0 w : World} {A C B : Nat} {t : T} {K : Nat → Prop}
def opObj (o : Op6) : Obj := .cells #[.int .i64 o.kind, .int .i64 o.a, .int .i64 o.b, .int .i64 o.c, .int .i64 o.d, .string o.s, .string o.t] 29
theorem op_cell (w : World) (o : Op6) (j : Nat) {v : Value} (h : o.cells[j]? = some v) : (w.alloc (opObj o)).cell? ⟨w.heap.size, j, none⟩ = some v := by
  unfold opObj
  rw [cell_of_row _ w.heap.size j _ _ (0, 0) (heap_alloc_new w _), ← h]
  unfold Op6.cells
  simp
set_option maxHeartbeats 4000000 in
set_option maxRecDepth 100000 in
theorem does6_make (a b c d : Int) (s x : ByteArray) (hmb : wfI b) (h : TW K w0 w A C B t t) (hs : Sound t) (hb : ∀ k, (t k).holds ≤ 1000000) :
    Calls Try.prog 10 #[.pointer (some ⟨A, 0, none⟩), .pointer (some ⟨C, 0, none⟩), .agg #[.int .i64 1, .int .i64 a, .int .i64 b, .int .i64 c, .int .i64 d, .string s, .string x]] w fun e w' => e = .returned (.bool true) ∧ TW K w0 w' A C B (makeP t (rMake a b c c d) a b c c d).1 (makeP t (rMake a b c c d) a b c c d).1 := by
  obtain ⟨u, n, cd, hr⟩ : ∃ u n cd, makeP t (rMake a b c c d) a b c c d = (u, n, cd) := ⟨_, _, _, rfl⟩
  rw [hr]
  have HR := Lib.hid hr
  clear hr
  go_enter Try.func10, Try.ntmps10
  go_wp2_with fail
  obtain ⟨w1, hw1⟩ : ∃ w1, w1 = w.alloc (opObj ⟨1, a, b, c, d, s, x⟩) := ⟨_, rfl⟩
  have hbl : Below w.heap.size w w1 := by rw [hw1]; exact (Below.refl _ w).alloc (Nat.le_refl _) _
  have hsz : w1.heap.size = w.heap.size + 1 := by rw [hw1]; simp
  have q1 : w1.cell? ⟨w.heap.size, 1, none⟩ = some (.int .i64 a) := by rw [hw1]; exact op_cell w _ 1 rfl
  have q2 : w1.cell? ⟨w.heap.size, 2, none⟩ = some (.int .i64 b) := by rw [hw1]; exact op_cell w _ 2 rfl
  have q3 : w1.cell? ⟨w.heap.size, 3, none⟩ = some (.int .i64 c) := by rw [hw1]; exact op_cell w _ 3 rfl
  have q4 : w1.cell? ⟨w.heap.size, 4, none⟩ = some (.int .i64 d) := by rw [hw1]; exact op_cell w _ 4 rfl
  unfold opObj at hw1
  simp only at hw1
  rw [← hw1]
  have h1 := h.rebase hbl
  have hK : KN K w w1 w.heap.size := .inr ⟨Nat.le_refl _, by omega⟩
  have HB := Lib.hid (fun w' u (h' : TW (KN K w w1) w1 w' A C B u u) => h'.unbase h hbl)
  clear hw1 hbl hsz h
  generalize w.heap.size = G at *
  generalize KN K w w1 = K1 at *
  have hq := fun wx (hx : TW K1 w1 wx A C B t t) => tp_make hx hs.sd a b c c d hmb
  have hq2 := fun wx (hx : TW K1 w1 wx A C B u t) => td_make hx a b c c d
  rw [HR.out] at hq hq2
  unfold makeV at hq hq2
  simp only at hq hq2
  have H1 := Lib.hid hq
  have H2 := Lib.hid hq2
  clear hq hq2
  go_wp2_with (first
    | (go_at_call 26; refine (H1.out _ h1).mono ?_; rintro e w2 ⟨rfl, p1⟩; have r1 := p1.cell hK q1; have r2 := p1.cell hK q2; have r3 := p1.cell hK q3; have r4 := p1.cell hK q4)
    | (go_at_call 34; refine (H2.out _ p1).mono ?_; rintro e w3 ⟨rfl, p2⟩))
  go_ret
  exact ⟨ret_bool (by simp), HB.out _ _ p2⟩
set_option maxHeartbeats 4000000 in
set_option maxRecDepth 100000 in
theorem does6_hold (a b c d : Int) (s x : ByteArray) (h : TW K w0 w A C B t t) (hs : Sound t) (hb : ∀ k, (t k).holds ≤ 1000000) :
    Calls Try.prog 10 #[.pointer (some ⟨A, 0, none⟩), .pointer (some ⟨C, 0, none⟩), .agg #[.int .i64 2, .int .i64 a, .int .i64 b, .int .i64 c, .int .i64 d, .string s, .string x]] w fun e w' => e = .returned (.bool true) ∧ TW K w0 w' A C B (holdP t a).1 (holdP t a).1 := by
  go_enter Try.func10, Try.ntmps10
  go_wp2_with fail
  obtain ⟨w1, hw1⟩ : ∃ w1, w1 = w.alloc (opObj ⟨2, a, b, c, d, s, x⟩) := ⟨_, rfl⟩
  have hbl : Below w.heap.size w w1 := by rw [hw1]; exact (Below.refl _ w).alloc (Nat.le_refl _) _
  have hsz : w1.heap.size = w.heap.size + 1 := by rw [hw1]; simp
  have q1 : w1.cell? ⟨w.heap.size, 1, none⟩ = some (.int .i64 a) := by rw [hw1]; exact op_cell w _ 1 rfl
  unfold opObj at hw1
  simp only at hw1
  rw [← hw1]
  have h1 := h.rebase hbl
  have hK : KN K w w1 w.heap.size := .inr ⟨Nat.le_refl _, by omega⟩
  have HB := Lib.hid (fun w' u (h' : TW (KN K w w1) w1 w' A C B u u) => h'.unbase h hbl)
  clear hw1 hbl hsz h
  generalize w.heap.size = G at *
  generalize KN K w w1 = K1 at *
  go_region_held3 (fun w' => w'.cell? ⟨G, 1, none⟩ = some (.int .i64 a))
    (first | exact q1 | exact p1.cell hK q1 | exact p2.cell hK q1)
    (first
      | (go_at_call 35; refine (tp_hold h1.drew a hb).mono ?_; rintro e w2 ⟨rfl, p1⟩)
      | (go_at_call 36; refine (td_hold p1 a hb).mono ?_; rintro e w3 ⟨rfl, p2⟩))
  go_wp2
  go_ret
  exact ⟨ret_bool (by simp), HB.out _ _ p2⟩
set_option maxHeartbeats 4000000 in
set_option maxRecDepth 100000 in
theorem does6_drop (a b c d : Int) (s x : ByteArray) (h : TW K w0 w A C B t t) (hs : Sound t) (hb : ∀ k, (t k).holds ≤ 1000000) :
    Calls Try.prog 10 #[.pointer (some ⟨A, 0, none⟩), .pointer (some ⟨C, 0, none⟩), .agg #[.int .i64 3, .int .i64 a, .int .i64 b, .int .i64 c, .int .i64 d, .string s, .string x]] w fun e w' => e = .returned (.bool true) ∧ TW K w0 w' A C B (dropP t a).1 (dropP t a).1 := by
  go_enter Try.func10, Try.ntmps10
  go_wp2_with fail
  obtain ⟨w1, hw1⟩ : ∃ w1, w1 = w.alloc (opObj ⟨3, a, b, c, d, s, x⟩) := ⟨_, rfl⟩
  have hbl : Below w.heap.size w w1 := by rw [hw1]; exact (Below.refl _ w).alloc (Nat.le_refl _) _
  have hsz : w1.heap.size = w.heap.size + 1 := by rw [hw1]; simp
  have q1 : w1.cell? ⟨w.heap.size, 1, none⟩ = some (.int .i64 a) := by rw [hw1]; exact op_cell w _ 1 rfl
  unfold opObj at hw1
  simp only at hw1
  rw [← hw1]
  have h1 := h.rebase hbl
  have hK : KN K w w1 w.heap.size := .inr ⟨Nat.le_refl _, by omega⟩
  have HB := Lib.hid (fun w' u (h' : TW (KN K w w1) w1 w' A C B u u) => h'.unbase h hbl)
  clear hw1 hbl hsz h
  generalize w.heap.size = G at *
  generalize KN K w w1 = K1 at *
  go_region_held3 (fun w' => w'.cell? ⟨G, 1, none⟩ = some (.int .i64 a))
    (first | exact q1 | exact p1.cell hK q1 | exact p2.cell hK q1)
    (first
      | (go_at_call 28; refine (tp_drop h1.drew hs a hb).mono ?_; rintro e w2 ⟨rfl, p1⟩)
      | (go_at_call 37; refine (td_drop p1 hs.sd a hb).mono ?_; rintro e w3 ⟨rfl, p2⟩))
  go_wp2
  go_ret
  exact ⟨ret_bool (by simp), HB.out _ _ p2⟩
set_option maxHeartbeats 4000000 in
set_option maxRecDepth 100000 in
theorem does6_set (a b c d : Int) (s x : ByteArray) (hmb : wfI b) (h : TW K w0 w A C B t t) (hs : Sound t) (hb : ∀ k, (t k).holds ≤ 1000000) :
    Calls Try.prog 10 #[.pointer (some ⟨A, 0, none⟩), .pointer (some ⟨C, 0, none⟩), .agg #[.int .i64 4, .int .i64 a, .int .i64 b, .int .i64 c, .int .i64 d, .string s, .string x]] w fun e w' => e = .returned (.bool true) ∧ TW K w0 w' A C B (setP t a (rOk b c d) b c d).1 (setP t a (rOk b c d) b c d).1 := by
  go_enter Try.func10, Try.ntmps10
  go_wp2_with fail
  obtain ⟨w1, hw1⟩ : ∃ w1, w1 = w.alloc (opObj ⟨4, a, b, c, d, s, x⟩) := ⟨_, rfl⟩
  have hbl : Below w.heap.size w w1 := by rw [hw1]; exact (Below.refl _ w).alloc (Nat.le_refl _) _
  have hsz : w1.heap.size = w.heap.size + 1 := by rw [hw1]; simp
  have q1 : w1.cell? ⟨w.heap.size, 1, none⟩ = some (.int .i64 a) := by rw [hw1]; exact op_cell w _ 1 rfl
  have q2 : w1.cell? ⟨w.heap.size, 2, none⟩ = some (.int .i64 b) := by rw [hw1]; exact op_cell w _ 2 rfl
  have q3 : w1.cell? ⟨w.heap.size, 3, none⟩ = some (.int .i64 c) := by rw [hw1]; exact op_cell w _ 3 rfl
  have q4 : w1.cell? ⟨w.heap.size, 4, none⟩ = some (.int .i64 d) := by rw [hw1]; exact op_cell w _ 4 rfl
  unfold opObj at hw1
  simp only at hw1
  rw [← hw1]
  have h1 := h.rebase hbl
  have hK : KN K w w1 w.heap.size := .inr ⟨Nat.le_refl _, by omega⟩
  have HB := Lib.hid (fun w' u (h' : TW (KN K w w1) w1 w' A C B u u) => h'.unbase h hbl)
  clear hw1 hbl hsz h
  generalize w.heap.size = G at *
  generalize KN K w w1 = K1 at *
  go_region_held3 (fun w' => w'.cell? ⟨G, 1, none⟩ = some (.int .i64 a) ∧ w'.cell? ⟨G, 2, none⟩ = some (.int .i64 b) ∧ w'.cell? ⟨G, 3, none⟩ = some (.int .i64 c) ∧ w'.cell? ⟨G, 4, none⟩ = some (.int .i64 d))
    (first | exact ⟨q1, q2, q3, q4⟩ | exact ⟨p1.cell hK q1, p1.cell hK q2, p1.cell hK q3, p1.cell hK q4⟩ | exact ⟨p2.cell hK q1, p2.cell hK q2, p2.cell hK q3, p2.cell hK q4⟩)
    (first
      | (go_at_call 38; refine (tp_set h1.drew a b c d hmb).mono ?_; rintro e w2 ⟨rfl, p1⟩)
      | (go_at_call 39; refine (td_set p1 a b c d).mono ?_; rintro e w3 ⟨rfl, p2⟩))
  go_wp2
  go_ret
  exact ⟨ret_bool (by simp), HB.out _ _ p2⟩
set_option maxHeartbeats 4000000 in
set_option maxRecDepth 100000 in
theorem does6_put (a b c d : Int) (s x : ByteArray) (hbw : -9223372036854775808 ≤ b ∧ b ≤ 9223372036854775807) (hsz : s.size ≤ 1000000) (h : TW K w0 w A C B t t) (hs : Sound t) (hb : ∀ k, (t k).holds ≤ 1000000) :
    Calls Try.prog 10 #[.pointer (some ⟨A, 0, none⟩), .pointer (some ⟨C, 0, none⟩), .agg #[.int .i64 5, .int .i64 a, .int .i64 b, .int .i64 c, .int .i64 d, .string s, .string x]] w fun e w' => e = .returned (.bool true) ∧ TW K w0 w' A C B (putP t a b s.data.toList).1 (putP t a b s.data.toList).1 := by
  go_enter Try.func10, Try.ntmps10
  go_wp2_with fail
  obtain ⟨w1, hw1⟩ : ∃ w1, w1 = w.alloc (opObj ⟨5, a, b, c, d, s, x⟩) := ⟨_, rfl⟩
  have hbl : Below w.heap.size w w1 := by rw [hw1]; exact (Below.refl _ w).alloc (Nat.le_refl _) _
  have hsz : w1.heap.size = w.heap.size + 1 := by rw [hw1]; simp
  have q1 : w1.cell? ⟨w.heap.size, 1, none⟩ = some (.int .i64 a) := by rw [hw1]; exact op_cell w _ 1 rfl
  have q2 : w1.cell? ⟨w.heap.size, 2, none⟩ = some (.int .i64 b) := by rw [hw1]; exact op_cell w _ 2 rfl
  have q5 : w1.cell? ⟨w.heap.size, 5, none⟩ = some (.string s) := by rw [hw1]; exact op_cell w _ 5 rfl
  unfold opObj at hw1
  simp only at hw1
  rw [← hw1]
  have h1 := h.rebase hbl
  have hK : KN K w w1 w.heap.size := .inr ⟨Nat.le_refl _, by omega⟩
  have HB := Lib.hid (fun w' u (h' : TW (KN K w w1) w1 w' A C B u u) => h'.unbase h hbl)
  clear hw1 hbl hsz h
  generalize w.heap.size = G at *
  generalize KN K w w1 = K1 at *
  go_region_held3 (fun w' => w'.cell? ⟨G, 1, none⟩ = some (.int .i64 a) ∧ w'.cell? ⟨G, 2, none⟩ = some (.int .i64 b) ∧ w'.cell? ⟨G, 5, none⟩ = some (.string s))
    (first | exact ⟨q1, q2, q5⟩ | exact ⟨p1.cell hK q1, p1.cell hK q2, p1.cell hK q5⟩ | exact ⟨p2.cell hK q1, p2.cell hK q2, p2.cell hK q5⟩)
    (first
      | (go_at_call 40; refine (tp_put h1.drew hs.sd a b s hbw hsz).mono ?_; rintro e w2 ⟨rfl, p1⟩)
      | (go_at_call 41; refine (td_put p1 hs.sd a b s hbw (by unfold maxLen; omega)).mono ?_; rintro e w3 ⟨rfl, p2⟩))
  go_wp2
  go_ret
  exact ⟨ret_bool (by simp), HB.out _ _ p2⟩
set_option maxHeartbeats 4000000 in
set_option maxRecDepth 100000 in
theorem does6_cut (a b c d : Int) (s x : ByteArray) (h : TW K w0 w A C B t t) (hs : Sound t) (hb : ∀ k, (t k).holds ≤ 1000000) :
    Calls Try.prog 10 #[.pointer (some ⟨A, 0, none⟩), .pointer (some ⟨C, 0, none⟩), .agg #[.int .i64 6, .int .i64 a, .int .i64 b, .int .i64 c, .int .i64 d, .string s, .string x]] w fun e w' => e = .returned (.bool true) ∧ TW K w0 w' A C B (cutP t a).1 (cutP t a).1 := by
  go_enter Try.func10, Try.ntmps10
  go_wp2_with fail
  obtain ⟨w1, hw1⟩ : ∃ w1, w1 = w.alloc (opObj ⟨6, a, b, c, d, s, x⟩) := ⟨_, rfl⟩
  have hbl : Below w.heap.size w w1 := by rw [hw1]; exact (Below.refl _ w).alloc (Nat.le_refl _) _
  have hsz : w1.heap.size = w.heap.size + 1 := by rw [hw1]; simp
  have q1 : w1.cell? ⟨w.heap.size, 1, none⟩ = some (.int .i64 a) := by rw [hw1]; exact op_cell w _ 1 rfl
  unfold opObj at hw1
  simp only at hw1
  rw [← hw1]
  have h1 := h.rebase hbl
  have hK : KN K w w1 w.heap.size := .inr ⟨Nat.le_refl _, by omega⟩
  have HB := Lib.hid (fun w' u (h' : TW (KN K w w1) w1 w' A C B u u) => h'.unbase h hbl)
  clear hw1 hbl hsz h
  generalize w.heap.size = G at *
  generalize KN K w w1 = K1 at *
  go_region_held3 (fun w' => w'.cell? ⟨G, 1, none⟩ = some (.int .i64 a))
    (first | exact q1 | exact p1.cell hK q1 | exact p2.cell hK q1)
    (first
      | (go_at_call 42; refine (tp_cut h1.drew hs.sd a).mono ?_; rintro e w2 ⟨rfl, p1⟩)
      | (go_at_call 43; refine (td_cut p1 hs.sd a).mono ?_; rintro e w3 ⟨rfl, p2⟩))
  go_wp2
  go_ret
  exact ⟨ret_bool (by simp), HB.out _ _ p2⟩
set_option maxHeartbeats 4000000 in
set_option maxRecDepth 100000 in
theorem does6_enter (a b c d : Int) (s x : ByteArray) (hsz : s.size ≤ maxLen) (h : TW K w0 w A C B t t) (hs : Sound t) (hb : ∀ k, (t k).holds ≤ 1000000) :
    Calls Try.prog 10 #[.pointer (some ⟨A, 0, none⟩), .pointer (some ⟨C, 0, none⟩), .agg #[.int .i64 7, .int .i64 a, .int .i64 b, .int .i64 c, .int .i64 d, .string s, .string x]] w fun e w' => e = .returned (.bool true) ∧ TW K w0 w' A C B (enterP t a s.data.toList b).1 (enterP t a s.data.toList b).1 := by
  go_enter Try.func10, Try.ntmps10
  go_wp2_with fail
  obtain ⟨w1, hw1⟩ : ∃ w1, w1 = w.alloc (opObj ⟨7, a, b, c, d, s, x⟩) := ⟨_, rfl⟩
  have hbl : Below w.heap.size w w1 := by rw [hw1]; exact (Below.refl _ w).alloc (Nat.le_refl _) _
  have hsz : w1.heap.size = w.heap.size + 1 := by rw [hw1]; simp
  have q1 : w1.cell? ⟨w.heap.size, 1, none⟩ = some (.int .i64 a) := by rw [hw1]; exact op_cell w _ 1 rfl
  have q5 : w1.cell? ⟨w.heap.size, 5, none⟩ = some (.string s) := by rw [hw1]; exact op_cell w _ 5 rfl
  have q2 : w1.cell? ⟨w.heap.size, 2, none⟩ = some (.int .i64 b) := by rw [hw1]; exact op_cell w _ 2 rfl
  unfold opObj at hw1
  simp only at hw1
  rw [← hw1]
  have h1 := h.rebase hbl
  have hK : KN K w w1 w.heap.size := .inr ⟨Nat.le_refl _, by omega⟩
  have HB := Lib.hid (fun w' u (h' : TW (KN K w w1) w1 w' A C B u u) => h'.unbase h hbl)
  clear hw1 hbl hsz h
  generalize w.heap.size = G at *
  generalize KN K w w1 = K1 at *
  go_region_held3 (fun w' => w'.cell? ⟨G, 1, none⟩ = some (.int .i64 a) ∧ w'.cell? ⟨G, 5, none⟩ = some (.string s) ∧ w'.cell? ⟨G, 2, none⟩ = some (.int .i64 b))
    (first | exact ⟨q1, q5, q2⟩ | exact ⟨p1.cell hK q1, p1.cell hK q5, p1.cell hK q2⟩ | exact ⟨p2.cell hK q1, p2.cell hK q5, p2.cell hK q2⟩)
    (first
      | (go_at_call 27; refine (tp_enter h1.drew hs.sd a b s hsz).mono ?_; rintro e w2 ⟨rfl, p1⟩)
      | (go_at_call 44; refine (td_enter p1 hs.sd a b s hsz).mono ?_; rintro e w3 ⟨rfl, p2⟩))
  go_wp2
  go_ret
  exact ⟨ret_bool (by simp), HB.out _ _ p2⟩
set_option maxHeartbeats 4000000 in
set_option maxRecDepth 100000 in
theorem does6_remove (a b c d : Int) (s x : ByteArray) (hsz : s.size ≤ maxLen) (h : TW K w0 w A C B t t) (hs : Sound t) (hb : ∀ k, (t k).holds ≤ 1000000) :
    Calls Try.prog 10 #[.pointer (some ⟨A, 0, none⟩), .pointer (some ⟨C, 0, none⟩), .agg #[.int .i64 8, .int .i64 a, .int .i64 b, .int .i64 c, .int .i64 d, .string s, .string x]] w fun e w' => e = .returned (.bool true) ∧ TW K w0 w' A C B (removeP t a s.data.toList).1 (removeP t a s.data.toList).1 := by
  go_enter Try.func10, Try.ntmps10
  go_wp2_with fail
  obtain ⟨w1, hw1⟩ : ∃ w1, w1 = w.alloc (opObj ⟨8, a, b, c, d, s, x⟩) := ⟨_, rfl⟩
  have hbl : Below w.heap.size w w1 := by rw [hw1]; exact (Below.refl _ w).alloc (Nat.le_refl _) _
  have hsz : w1.heap.size = w.heap.size + 1 := by rw [hw1]; simp
  have q1 : w1.cell? ⟨w.heap.size, 1, none⟩ = some (.int .i64 a) := by rw [hw1]; exact op_cell w _ 1 rfl
  have q5 : w1.cell? ⟨w.heap.size, 5, none⟩ = some (.string s) := by rw [hw1]; exact op_cell w _ 5 rfl
  unfold opObj at hw1
  simp only at hw1
  rw [← hw1]
  have h1 := h.rebase hbl
  have hK : KN K w w1 w.heap.size := .inr ⟨Nat.le_refl _, by omega⟩
  have HB := Lib.hid (fun w' u (h' : TW (KN K w w1) w1 w' A C B u u) => h'.unbase h hbl)
  clear hw1 hbl hsz h
  generalize w.heap.size = G at *
  generalize KN K w w1 = K1 at *
  go_region_held3 (fun w' => w'.cell? ⟨G, 1, none⟩ = some (.int .i64 a) ∧ w'.cell? ⟨G, 5, none⟩ = some (.string s))
    (first | exact ⟨q1, q5⟩ | exact ⟨p1.cell hK q1, p1.cell hK q5⟩ | exact ⟨p2.cell hK q1, p2.cell hK q5⟩)
    (first
      | (go_at_call 29; refine (tp_remove h1.drew hs a s hsz).mono ?_; rintro e w2 ⟨rfl, p1⟩)
      | (go_at_call 45; refine (td_remove p1 hs.sd a s).mono ?_; rintro e w3 ⟨rfl, p2⟩))
  go_wp2
  go_ret
  exact ⟨ret_bool (by simp), HB.out _ _ p2⟩
end Go.Proofs.Ytnjfnjkpehgenaa
/- Contract of any step of chapter 6's laws on both trees: both answer the same. Written by wip/tools/genLM.py. -/
namespace Go.Proofs.Ytnjfnjkpehgenaa
open Go.RowKit Ino Go.Maps
set_option linter.unusedVariables false
set_option linter.unusedSimpArgs false

variable {w0 w : World} {A C B : Nat} {t : T} {K : Nat → Prop}
set_option maxHeartbeats 4000000 in
set_option maxRecDepth 100000 in
theorem does6_move (kind : Int) (a b c d : Int) (s x : ByteArray) (hsz : s.size ≤ maxLen) (hxz : x.size ≤ maxLen) (k1 : kind ≠ 1) (k2 : kind ≠ 2) (k3 : kind ≠ 3) (k4 : kind ≠ 4) (k5 : kind ≠ 5) (k6 : kind ≠ 6) (k7 : kind ≠ 7) (k8 : kind ≠ 8) (h : TW K w0 w A C B t t) (hs : Sound t) (hb : ∀ k, (t k).holds ≤ 1000000) :
    Calls Try.prog 10 #[.pointer (some ⟨A, 0, none⟩), .pointer (some ⟨C, 0, none⟩), .agg #[.int .i64 kind, .int .i64 a, .int .i64 b, .int .i64 c, .int .i64 d, .string s, .string x]] w fun e w' => e = .returned (.bool true) ∧ TW K w0 w' A C B (moveP t a s.data.toList b x.data.toList).1 (moveP t a s.data.toList b x.data.toList).1 := by
  have e1 : ((kind : Int) == 1) = false := beq_eq_false_iff_ne.2 k1
  have e2 : ((kind : Int) == 2) = false := beq_eq_false_iff_ne.2 k2
  have e3 : ((kind : Int) == 3) = false := beq_eq_false_iff_ne.2 k3
  have e4 : ((kind : Int) == 4) = false := beq_eq_false_iff_ne.2 k4
  have e5 : ((kind : Int) == 5) = false := beq_eq_false_iff_ne.2 k5
  have e6 : ((kind : Int) == 6) = false := beq_eq_false_iff_ne.2 k6
  have e7 : ((kind : Int) == 7) = false := beq_eq_false_iff_ne.2 k7
  have e8 : ((kind : Int) == 8) = false := beq_eq_false_iff_ne.2 k8
  clear k1 k2 k3 k4 k5 k6 k7 k8
  go_enter Try.func10, Try.ntmps10
  go_wp2_with fail
  obtain ⟨w1, hw1⟩ : ∃ w1, w1 = w.alloc (opObj ⟨kind, a, b, c, d, s, x⟩) := ⟨_, rfl⟩
  have hbl : Below w.heap.size w w1 := by rw [hw1]; exact (Below.refl _ w).alloc (Nat.le_refl _) _
  have hsz : w1.heap.size = w.heap.size + 1 := by rw [hw1]; simp
  have q1 : w1.cell? ⟨w.heap.size, 1, none⟩ = some (.int .i64 a) := by rw [hw1]; exact op_cell w _ 1 rfl
  have q5 : w1.cell? ⟨w.heap.size, 5, none⟩ = some (.string s) := by rw [hw1]; exact op_cell w _ 5 rfl
  have q2 : w1.cell? ⟨w.heap.size, 2, none⟩ = some (.int .i64 b) := by rw [hw1]; exact op_cell w _ 2 rfl
  have q6 : w1.cell? ⟨w.heap.size, 6, none⟩ = some (.string x) := by rw [hw1]; exact op_cell w _ 6 rfl
  unfold opObj at hw1
  simp only at hw1
  rw [← hw1]
  have h1 := h.rebase hbl
  have hK : KN K w w1 w.heap.size := .inr ⟨Nat.le_refl _, by omega⟩
  have HB := Lib.hid (fun w' u (h' : TW (KN K w w1) w1 w' A C B u u) => h'.unbase h hbl)
  clear hw1 hbl hsz h
  generalize w.heap.size = G at *
  generalize KN K w w1 = K1 at *
  go_region_held3 (fun w' => w'.cell? ⟨G, 1, none⟩ = some (.int .i64 a) ∧ w'.cell? ⟨G, 5, none⟩ = some (.string s) ∧ w'.cell? ⟨G, 2, none⟩ = some (.int .i64 b) ∧ w'.cell? ⟨G, 6, none⟩ = some (.string x))
    (first | exact ⟨q1, q5, q2, q6⟩ | exact ⟨p1.cell hK q1, p1.cell hK q5, p1.cell hK q2, p1.cell hK q6⟩ | exact ⟨p2.cell hK q1, p2.cell hK q5, p2.cell hK q2, p2.cell hK q6⟩)
    (first
      | (go_at_call 46; refine (tp_move h1.drew hs a b s x hsz hxz).mono ?_; rintro e w2 ⟨rfl, p1⟩)
      | (go_at_call 47; refine (td_move p1 hs a b s x hsz hxz hb).mono ?_; rintro e w3 ⟨rfl, p2⟩))
  go_wp2
  go_ret
  exact ⟨ret_bool (by simp), HB.out _ _ p2⟩
/-- both answer the same, and both trees are one. -/
theorem does6_any (o : Op6) (ho : o.Ok) (hsz : o.s.size ≤ 1000000) (h : TW K w0 w A C B t t) (hs : Sound t) (hb : ∀ k, (t k).holds ≤ 1000000) :
    Calls Try.prog 10 #[.pointer (some ⟨A, 0, none⟩), .pointer (some ⟨C, 0, none⟩), .agg #[.int .i64 o.kind, .int .i64 o.a, .int .i64 o.b, .int .i64 o.c, .int .i64 o.d, .string o.s, .string o.t]] w fun e w' => e = .returned (.bool true) ∧ TW K w0 w' A C B (o.step t) (o.step t) := by
  obtain ⟨hk1, ha, hb1, hc, hd, hss, htt⟩ := ho
  obtain ⟨kind, a, b, c, d, s, x⟩ := o
  simp only at *
  unfold Op6.step
  simp only
  by_cases k1 : kind = 1
  · rw [if_pos k1]; subst k1; exact does6_make a b c d s x hb1 h hs hb
  rw [if_neg k1]
  by_cases k2 : kind = 2
  · rw [if_pos k2]; subst k2; exact does6_hold a b c d s x h hs hb
  rw [if_neg k2]
  by_cases k3 : kind = 3
  · rw [if_pos k3]; subst k3; exact does6_drop a b c d s x h hs hb
  rw [if_neg k3]
  by_cases k4 : kind = 4
  · rw [if_pos k4]; subst k4; exact does6_set a b c d s x hb1 h hs hb
  rw [if_neg k4]
  by_cases k5 : kind = 5
  · rw [if_pos k5]; subst k5; exact does6_put a b c d s x hb1 hsz h hs hb
  rw [if_neg k5]
  by_cases k6 : kind = 6
  · rw [if_pos k6]; subst k6; exact does6_cut a b c d s x h hs hb
  rw [if_neg k6]
  by_cases k7 : kind = 7
  · rw [if_pos k7]; subst k7; exact does6_enter a b c d s x hss h hs hb
  rw [if_neg k7]
  by_cases k8 : kind = 8
  · rw [if_pos k8]; subst k8; exact does6_remove a b c d s x hss h hs hb
  rw [if_neg k8]
  exact does6_move kind a b c d s x hss htt k1 k2 k3 k4 k5 k6 k7 k8 h hs hb
end Go.Proofs.Ytnjfnjkpehgenaa
