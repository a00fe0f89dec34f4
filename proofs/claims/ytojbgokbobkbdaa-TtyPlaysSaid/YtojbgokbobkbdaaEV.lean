/- Both terminals; the walk of TtyPlays. -/
import Derived.Test.YtojbgokbobkbdaaEU
namespace Go.Proofs.Ytojbgokbobkbdaa
open Go.RowKit
set_option linter.unusedVariables false
set_option linter.unusedSimpArgs false
variable {w0 W W' : World} {T D : Nat} {s d : TS} {K : Nat → Prop}
/-- both terminals above the blocks of w0, and none of the blocks K. -/
structure TP (K : Nat → Prop) (w0 W : World) (T D : Nat) (s d : TS) : Prop where
  ex : ∃ S R, TAt W w0.heap.size T S s ∧ DAt W w0.heap.size D R d ∧ (∀ k, S k → R k → False) ∧ ∀ k, K k → ¬ S k ∧ ¬ R k ∧ k < W.heap.size
  oks : Ok s
  okd : Ok d
  bel : Below w0.heap.size w0 W
theorem TP.stepP {S R : Nat → Prop} {s' : TS} (h1 : TAt W w0.heap.size T S s) (h2 : DAt W w0.heap.size D R d) (h3 : ∀ k, S k → R k → False) (h4 : ∀ k, K k → ¬ S k ∧ ¬ R k ∧ k < W.heap.size)
    (b : Below w0.heap.size w0 W) (k : Ok s') (kd : Ok d) (e : Does W w0.heap.size T S s' W') : TP K w0 W' T D s' d ∧ Fr (fun k => ¬ K k) W W' := by
  obtain ⟨S', k1, f, g⟩ := e
  refine ⟨⟨⟨S', R, k1, h2.fr f (fun k hr hs => h3 k hs hr), fun k hs hr => ?_, fun k hK => ⟨fun hs => ?_, (h4 k hK).2.1, Nat.lt_of_lt_of_le (h4 k hK).2.2 f.size⟩⟩, k, kd, f.below b (Nat.le_refl _) fun g hg => (h1.lt hg).1⟩, f.mono fun k _ hs hK => (h4 k hK).1 hs⟩
  · rcases g k hs with h | h
    · exact h3 k h hr
    · have := (h2.lt hr).2; omega
  · rcases g k hs with h | h
    · exact (h4 k hK).1 h
    · have := (h4 k hK).2.2; omega
theorem TP.stepD {S R : Nat → Prop} {d' : TS} (h1 : TAt W w0.heap.size T S s) (h2 : DAt W w0.heap.size D R d) (h3 : ∀ k, S k → R k → False) (h4 : ∀ k, K k → ¬ S k ∧ ¬ R k ∧ k < W.heap.size)
    (b : Below w0.heap.size w0 W) (k : Ok s) (kd : Ok d') (e : DDoes W w0.heap.size D R d' W') : TP K w0 W' T D s d' ∧ Fr (fun k => ¬ K k) W W' := by
  obtain ⟨R', k1, f, g⟩ := e
  refine ⟨⟨⟨S, R', h1.fr f (fun k hs hr => h3 k hs hr), k1, fun k hs hr => ?_, fun k hK => ⟨(h4 k hK).1, fun hr => ?_, Nat.lt_of_lt_of_le (h4 k hK).2.2 f.size⟩⟩, k, kd, f.below b (Nat.le_refl _) fun g hg => (h2.lt hg).1⟩, f.mono fun k _ hr hK => (h4 k hK).2.1 hr⟩
  · rcases g k hr with h | h
    · exact h3 k hs h
    · have := (h1.lt hs).2; omega
  · rcases g k hr with h | h
    · exact (h4 k hK).2.1 h
    · have := (h4 k hK).2.2; omega
theorem TP.fresh (h : TP K w0 W T D s d) (f : Below W.heap.size W W') : TP K w0 W' T D s d := by
  obtain ⟨⟨S, R, h1, h2, h3, h4⟩, k, kd, b⟩ := h
  exact ⟨⟨S, R, h1.fr (Fr.of_below (S := fun _ => False) f) (fun _ _ => id), h2.fr (Fr.of_below (S := fun _ => False) f) (fun _ _ => id), h3, fun k hk => ⟨(h4 k hk).1, (h4 k hk).2.1, Nat.lt_of_lt_of_le (h4 k hk).2.2 f.size⟩⟩, k, kd, b.trans (f.mono b.size)⟩
/-- a block that is laid now is kept, too. -/
theorem TP.keep (h : TP K w0 W T D s d) (o : Obj) : TP (· = W.heap.size) w0 (W.alloc o) T D s d := by
  obtain ⟨⟨S, R, h1, h2, h3, h4⟩, k, kd, b⟩ := h
  have f : Fr (fun _ => False) W (W.alloc o) := (Fr.refl _ W).alloc o
  refine ⟨⟨S, R, h1.fr f (fun _ _ => id), h2.fr f (fun _ _ => id), h3, fun k hk => ⟨fun hs => ?_, fun hr => ?_, by rw [World.size_alloc]; omega⟩⟩, k, kd, b.alloc b.size _⟩
  · have := (h1.lt hs).2; omega
  · have := (h2.lt hr).2; omega
theorem TP.free (h : TP K w0 W T D s d) : TP (fun _ => False) w0 W T D s d := by
  obtain ⟨⟨S, R, h1, h2, h3, h4⟩, k, kd, b⟩ := h
  exact ⟨⟨S, R, h1, h2, h3, fun _ h => h.elim⟩, k, kd, b⟩
theorem TP.cells (h : TP K w0 W T D s d) : W.cell? ⟨D, 2, none⟩ = some (.bool (!d.echo)) ∧ W.cell? ⟨D, 3, none⟩ = some (.string ⟨d.shown.toArray⟩) := by
  obtain ⟨⟨S, R, h1, ⟨v, h2, _⟩, h3, h4⟩, k, kd, b⟩ := h
  exact ⟨h2.cell.2.2.1, h2.cell.2.2.2⟩
theorem kept_cell {g o : Nat} {v : Value} (h : Fr (fun k => ¬ K k) W W') (hg : K g) (hc : W.cell? ⟨g, o, none⟩ = some v) : W'.cell? ⟨g, o, none⟩ = some v := h.cell hc (fun hn => hn hg)
section
variable (h : TP K w0 W T D s d)
include h
theorem tp_type (t : ByteArray) (ht : t.size ≤ 100000000) (hs : s.shown.length ≤ 1000000000000) :
    Calls Try.prog 16 #[.pointer (some ⟨T, 0, none⟩), .string t] W fun r w' => r = .returned (.tuple #[]) ∧ TP K w0 w' T D (typeP t.data.toList s) d ∧ Fr (fun k => ¬ K k) W w' := by
  obtain ⟨⟨S, R, h1, h2, h3, h4⟩, k, kd, b⟩ := h
  exact (type_any t ht h1 k hs).mono fun r w' ⟨e, x⟩ => ⟨e, TP.stepP h1 h2 h3 h4 b (ok_type k _) kd x⟩
theorem td_type (t : ByteArray) (ht : t.size ≤ 100000000) (hs : d.shown.length ≤ 1000000000000) :
    Calls Try.prog 21 #[.pointer (some ⟨D, 0, none⟩), .string t] W fun r w' => r = .returned (.tuple #[]) ∧ TP K w0 w' T D s (typeP t.data.toList d) ∧ Fr (fun k => ¬ K k) W w' := by
  obtain ⟨⟨S, R, h1, h2, h3, h4⟩, k, kd, b⟩ := h
  exact (rtype_any t ht h2 kd hs).mono fun r w' ⟨e, x⟩ => ⟨e, TP.stepD h1 h2 h3 h4 b k (ok_type kd _) x⟩
theorem tp_read (n : Int) :
    Calls Try.prog 19 #[.pointer (some ⟨T, 0, none⟩), .int .i64 n] W fun r w' => r = .returned (readV n s) ∧ TP K w0 w' T D (readP n s) d ∧ Fr (fun k => ¬ K k) W w' := by
  obtain ⟨⟨S, R, h1, h2, h3, h4⟩, k, kd, b⟩ := h
  exact (read_any n h1 k).mono fun r w' ⟨e, x⟩ => ⟨e, TP.stepP h1 h2 h3 h4 b (ok_read k _) kd x⟩
theorem td_read (n : Int) :
    Calls Try.prog 22 #[.pointer (some ⟨D, 0, none⟩), .int .i64 n] W fun r w' => r = .returned (readV n d) ∧ TP K w0 w' T D s (readP n d) ∧ Fr (fun k => ¬ K k) W w' := by
  obtain ⟨⟨S, R, h1, h2, h3, h4⟩, k, kd, b⟩ := h
  exact (rread_any n h2 kd).mono fun r w' ⟨e, x⟩ => ⟨e, TP.stepD h1 h2 h3 h4 b k (ok_read kd _) x⟩
theorem tp_write (t : ByteArray) (hs : s.shown.length + t.size ≤ 140737488355328) :
    Calls Try.prog 23 #[.pointer (some ⟨T, 0, none⟩), .string t] W fun r w' => r = .returned (.tuple #[]) ∧ TP K w0 w' T D (writeP t.data.toList s) d ∧ Fr (fun k => ¬ K k) W w' := by
  obtain ⟨⟨S, R, h1, h2, h3, h4⟩, k, kd, b⟩ := h
  exact (write_any t h1 hs).mono fun r w' ⟨e, x⟩ => ⟨e, TP.stepP h1 h2 h3 h4 b (ok_write k _) kd x⟩
theorem td_write (t : ByteArray) (hs : d.shown.length + t.size ≤ 140737488355328) :
    Calls Try.prog 24 #[.pointer (some ⟨D, 0, none⟩), .string t] W fun r w' => r = .returned (.tuple #[]) ∧ TP K w0 w' T D s (writeP t.data.toList d) ∧ Fr (fun k => ¬ K k) W w' := by
  obtain ⟨⟨S, R, h1, h2, h3, h4⟩, k, kd, b⟩ := h
  exact (rwrite_any t h2 hs).mono fun r w' ⟨e, x⟩ => ⟨e, TP.stepD h1 h2 h3 h4 b k (ok_write kd _) x⟩
theorem tp_echo (on : Bool) :
    Calls Try.prog 18 #[.pointer (some ⟨T, 0, none⟩), .bool on] W fun r w' => r = .returned (.tuple #[]) ∧ TP K w0 w' T D (echoP on s) d ∧ Fr (fun k => ¬ K k) W w' := by
  obtain ⟨⟨S, R, h1, h2, h3, h4⟩, k, kd, b⟩ := h
  exact (echo_any on h1).mono fun r w' ⟨e, x⟩ => ⟨e, TP.stepP h1 h2 h3 h4 b (ok_echo k _) kd x⟩
theorem td_echo (on : Bool) :
    Calls Try.prog 25 #[.pointer (some ⟨D, 0, none⟩), .bool on] W fun r w' => r = .returned (.tuple #[]) ∧ TP K w0 w' T D s (echoP on d) ∧ Fr (fun k => ¬ K k) W w' := by
  obtain ⟨⟨S, R, h1, h2, h3, h4⟩, k, kd, b⟩ := h
  exact (recho_any on h2).mono fun r w' ⟨e, x⟩ => ⟨e, TP.stepD h1 h2 h3 h4 b k (ok_echo kd _) x⟩
theorem tp_clear :
    Calls Try.prog 26 #[.pointer (some ⟨T, 0, none⟩)] W fun r w' => r = .returned (.tuple #[]) ∧ TP K w0 w' T D (clearP s) d ∧ Fr (fun k => ¬ K k) W w' := by
  obtain ⟨⟨S, R, h1, h2, h3, h4⟩, k, kd, b⟩ := h
  exact (clear_any h1).mono fun r w' ⟨e, x⟩ => ⟨e, TP.stepP h1 h2 h3 h4 b (ok_clear _) kd x⟩
theorem td_clear :
    Calls Try.prog 27 #[.pointer (some ⟨D, 0, none⟩)] W fun r w' => r = .returned (.tuple #[]) ∧ TP K w0 w' T D s (clearP d) ∧ Fr (fun k => ¬ K k) W w' := by
  obtain ⟨⟨S, R, h1, h2, h3, h4⟩, k, kd, b⟩ := h
  exact (rclear_any h2).mono fun r w' ⟨e, x⟩ => ⟨e, TP.stepD h1 h2 h3 h4 b k (ok_clear _) x⟩
theorem tp_unread :
    Calls Try.prog 12 #[.pointer (some ⟨T, 0, none⟩)] W fun r w' => r = .returned (.tuple #[.int .i64 (cnt s.L : Nat), .int .i64 (s.line.length : Nat)]) ∧ TP K w0 w' T D s d ∧ Fr (fun k => ¬ K k) W w' := by
  obtain ⟨⟨S, R, h1, h2, h3, h4⟩, k, kd, b⟩ := h
  exact (unread_any h1).mono fun r w' ⟨e, x⟩ => ⟨e, TP.stepP h1 h2 h3 h4 b k kd x⟩
theorem td_unread :
    Calls Try.prog 13 #[.pointer (some ⟨D, 0, none⟩)] W fun r w' => r = .returned (.tuple #[.int .i64 (cnt d.L : Nat), .int .i64 (d.line.length : Nat)]) ∧ TP K w0 w' T D s d ∧ Fr (fun k => ¬ K k) W w' := by
  obtain ⟨⟨S, R, h1, h2, h3, h4⟩, k, kd, b⟩ := h
  exact (runread_any h2 kd).mono fun r w' ⟨e, x, f⟩ => ⟨e, TP.stepD h1 h2 h3 h4 b k kd ⟨R, x, f.mono (fun _ _ h => h.elim), fun k hk => .inl hk⟩⟩
theorem tp_screen :
    Calls Try.prog 15 #[.pointer (some ⟨T, 0, none⟩)] W fun r w' => r = .returned (.string ⟨s.shown.toArray⟩) ∧ TP K w0 w' T D s d ∧ Fr (fun k => ¬ K k) W w' := by
  obtain ⟨⟨S, R, h1, h2, h3, h4⟩, k, kd, b⟩ := h
  exact (screen_any h1).mono fun r w' ⟨e, x⟩ => ⟨e, TP.stepP h1 h2 h3 h4 b k kd x⟩
theorem tp_echoes :
    Calls Try.prog 14 #[.pointer (some ⟨T, 0, none⟩)] W fun r w' => r = .returned (.bool s.echo) ∧ W = w' := by
  obtain ⟨⟨S, R, ⟨v0, v2, v5, p, h1, hS⟩, h2, h3, h4⟩, k, kd, b⟩ := h
  obtain ⟨-, -, -, c3, -, -⟩ := h1.cell
  clear h1 hS h2 h3 h4 k kd b
  go_enter Try.func14, Try.ntmps14
  go_wp2
  go_ret
  exact ⟨rfl, rfl⟩
end
/-- a step. -/
def opP (o : OpP) (s : TS) : TS :=
  if o.kind = 1 then typeP (shortP o.s 3000).data.toList s else if o.kind = 2 then readP o.n s else if o.kind = 3 then writeP (shortP o.s 3000).data.toList s
  else if o.kind = 4 then echoP o.b s else if o.kind = 5 then clearP s else s
theorem op_shown {s : TS} (h : Ok s) (o : OpP) : (opP o s).shown.length ≤ s.shown.length + 2304000 := by
  have hz := short_size o.s 3000
  unfold opP
  split
  · have := shown_type h (shortP o.s 3000).data.toList
    rw [← size_list] at this
    omega
  split
  · rw [(shown_read o.n s).1]; omega
  split
  · simp only [writeP, List.length_append, ← size_list]; omega
  split
  · rw [(shown_echo o.b s).1]; omega
  split
  · simp only [clearP]; omega
  · omega
theorem op_new (w : World) (cs : Array Value) (t : TypeId) {j : Nat} {v : Value} (h : cs[j]? = some v) : (w.alloc (.cells cs t)).cell? ⟨w.heap.size, j, none⟩ = some v := by
  rw [cell_of_row _ w.heap.size j _ _ (0, 0) (heap_alloc_new w _)]
  exact h
set_option maxHeartbeats 4000000 in
set_option maxRecDepth 100000 in
theorem does_any (o : OpP) (ho : o.Ok) (h : TP (fun _ => False) w0 W T D s s) (hs : s.shown.length ≤ 100000000000) :
    Calls Try.prog 11 #[.pointer (some ⟨T, 0, none⟩), .pointer (some ⟨D, 0, none⟩), .agg #[.int .i64 o.kind, .int .i64 o.n, .string o.s, .bool o.b]] W fun r w' => r = .returned (.bool true) ∧ TP (fun _ => False) w0 w' T D (opP o s) (opP o s) := by
  obtain ⟨kd, n, b, z⟩ := o
  have hz : z.size ≤ maxLen := ho.s
  have hsz := short_size z 3000
  have HSH := Lib.hid (fun w => short_any z 3000 (by decide) hz w)
  have HK := Lib.hid (h.keep (.cells #[.int .i64 kd, .int .i64 n, .string z, .bool b] 32))
  have q0 := op_new W #[.int .i64 kd, .int .i64 n, .string z, .bool b] 32 (j := 0) rfl
  have q1 := op_new W #[.int .i64 kd, .int .i64 n, .string z, .bool b] 32 (j := 1) rfl
  have q2 := op_new W #[.int .i64 kd, .int .i64 n, .string z, .bool b] 32 (j := 2) rfl
  have q3 := op_new W #[.int .i64 kd, .int .i64 n, .string z, .bool b] 32 (j := 3) rfl
  obtain ⟨X, hX⟩ : ∃ X, opP ⟨kd, n, b, z⟩ s = X := ⟨_, rfl⟩
  rw [hX]
  unfold opP at hX
  simp only at hX
  clear ho h hz
  go_enter Try.func11, Try.ntmps11
  go_wp2_with fail
  refine (HSH.out _).mono ?_
  rintro e w1 ⟨rfl, rfl⟩
  generalize shortP z 3000 = y at *
  by_cases k1 : kd = 1
  · subst k1
    rw [if_pos rfl] at hX
    subst hX
    go_wp2_with fail
    refine (tp_type HK.out y (by omega) (by omega)).mono ?_
    rintro e w2 ⟨rfl, h2, f2⟩
    clear HK HSH q0 q1 q2 q3
    go_wp2_with fail
    refine (td_type h2 y (by omega) (by omega)).mono ?_
    rintro e w3 ⟨rfl, h3, f3⟩
    have H3 := Lib.hid h3.free
    clear h2 f2 h3 f3
    go_wp2
    go_ret
    exact ⟨rfl, H3.out⟩
  rw [if_neg k1] at hX
  by_cases k2 : kd = 2
  · subst k2
    rw [if_pos rfl] at hX
    subst hX
    go_wp2_with fail
    refine (tp_read HK.out n).mono ?_
    rintro e w2 ⟨rfl, h2, f2⟩
    have q4 := kept_cell f2 rfl q1
    clear HK HSH q0 q1 q2 q3 f2
    unfold readV
    generalize W.heap.size = G at *
    go_wp2_with fail
    refine (td_read h2 n).mono ?_
    rintro e w3 ⟨rfl, h3, f3⟩
    have H3 := Lib.hid h3.free
    clear h2 h3 f3 q4
    unfold readV
    go_wp2
    go_ret
    exact ⟨rfl, H3.out⟩
  rw [if_neg k2] at hX
  by_cases k3 : kd = 3
  · subst k3
    rw [if_pos rfl] at hX
    subst hX
    go_wp2_with fail
    refine (tp_write HK.out y (by omega)).mono ?_
    rintro e w2 ⟨rfl, h2, f2⟩
    clear HK HSH q0 q1 q2 q3
    go_wp2_with fail
    refine (td_write h2 y (by omega)).mono ?_
    rintro e w3 ⟨rfl, h3, f3⟩
    have H3 := Lib.hid h3.free
    clear h2 f2 h3 f3
    go_wp2
    go_ret
    exact ⟨rfl, H3.out⟩
  rw [if_neg k3] at hX
  by_cases k4 : kd = 4
  · subst k4
    rw [if_pos rfl] at hX
    subst hX
    go_wp2_with fail
    refine (tp_echo HK.out b).mono ?_
    rintro e w2 ⟨rfl, h2, f2⟩
    have q4 := kept_cell f2 rfl q3
    clear HK HSH q0 q1 q2 q3 f2
    generalize W.heap.size = G at *
    go_wp2_with fail
    refine (td_echo h2 b).mono ?_
    rintro e w3 ⟨rfl, h3, f3⟩
    have H3 := Lib.hid h3.free
    clear h2 h3 f3 q4
    go_wp2
    go_ret
    exact ⟨rfl, H3.out⟩
  rw [if_neg k4] at hX
  by_cases k5 : kd = 5
  · subst k5
    rw [if_pos rfl] at hX
    subst hX
    go_wp2_with fail
    refine (tp_clear HK.out).mono ?_
    rintro e w2 ⟨rfl, h2, f2⟩
    clear HK HSH q0 q1 q2 q3
    go_wp2_with fail
    refine (td_clear h2).mono ?_
    rintro e w3 ⟨rfl, h3, f3⟩
    have H3 := Lib.hid h3.free
    clear h2 f2 h3 f3
    go_wp2
    go_ret
    exact ⟨rfl, H3.out⟩
  · rw [if_neg k5] at hX
    subst hX
    have n1 : (kd == 1) = false := by simpa using k1
    have n2 : (kd == 2) = false := by simpa using k2
    have n3 : (kd == 3) = false := by simpa using k3
    have n4 : (kd == 4) = false := by simpa using k4
    have n5 : (kd == 5) = false := by simpa using k5
    have H3 := Lib.hid HK.out.free
    clear k1 k2 k3 k4 k5
    go_wp2
    go_ret
    exact ⟨rfl, H3.out⟩
end Go.Proofs.Ytojbgokbobkbdaa
