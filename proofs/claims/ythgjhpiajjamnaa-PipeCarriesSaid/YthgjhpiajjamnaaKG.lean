/- Contracts over lists of bytes: both pipes. -/
import Derived.Test.YthgjhpiajjamnaaKF
namespace Go.Proofs.Ythgjhpiajjamnaa
open Go.RowKit
set_option linter.unusedVariables false
set_option linter.unusedSimpArgs false
variable {W W' : World} {P B rd wr : Nat} {l : Bs}

/-- the document's pipe with this row. -/
def RAt (W : World) (B : Nat) (l : Bs) (rd wr : Nat) : Prop := ∃ s : ByteArray, s.data.toList = l ∧ RI W B s rd wr
theorem RAt.fr {S : Nat → Prop} (h : RAt W B l rd wr) (k : Fr S W W') (hs : ¬ S B) : RAt W' B l rd wr := by
  obtain ⟨s, h1, h2⟩ := h
  exact ⟨s, h1, h2.fr k hs⟩
theorem RAt.lt (h : RAt W B l rd wr) : B < W.heap.size := by
  obtain ⟨s, h1, h2⟩ := h
  exact h2.row.lt
/-- the row behind Write. -/
def wrL (l : Bs) (s : ByteArray) : Bs := s.data.toList.take (128 - l.length)
theorem pa_new (w : World) : Calls Try.prog 7 #[] w fun e w' => e = .returned (.pointer (some ⟨w.heap.size, 0, none⟩)) ∧ PAt w' w.heap.size [] 1 1 ∧ Below w.heap.size w w' :=
  (pnew_any w).mono fun e w' ⟨h1, h2, h3⟩ => ⟨h1, ⟨_, _, h2, rfl⟩, h3⟩
theorem pa_join (b : Bool) (w : World) (h : PAt w P l rd wr) (h1 : rd < 1000000) (h2 : wr < 1000000) :
    Calls Try.prog 9 #[.pointer (some ⟨P, 0, none⟩), .bool b] w fun e w' => e = .returned (.tuple #[]) ∧ PAt w' P l (if b then rd else rd + 1) (if b then wr + 1 else wr) ∧ Fr (· = P) w w' := by
  obtain ⟨r, f, k1, k2⟩ := h
  exact (join_any b w k1 h1 h2).mono fun e w' ⟨e1, e2, e3⟩ => ⟨e1, ⟨r, f, e2, k2⟩, e3⟩
theorem pa_leave (b : Bool) (w : World) (h : PAt w P l rd wr) (h1 : rd < 1000000) (h2 : wr < 1000000) :
    Calls Try.prog 11 #[.pointer (some ⟨P, 0, none⟩), .bool b] w fun e w' => e = .returned (.bool (decide (0 < if b then wr else rd))) ∧ PAt w' P l (if b then rd else rd - 1) (if b then wr - 1 else wr) ∧ Fr (· = P) w w' := by
  obtain ⟨r, f, k1, k2⟩ := h
  exact (leave_any b w k1 h1 h2).mono fun e w' ⟨e1, e2, e3⟩ => ⟨e1, ⟨r, f, e2, k2⟩, e3⟩
theorem pa_state (w : World) (h : PAt w P l rd wr) :
    Calls Try.prog 17 #[.pointer (some ⟨P, 0, none⟩)] w fun e w' => e = .returned (.tuple #[.int .i64 rd, .int .i64 wr, .int .i64 (l.length : Nat)]) ∧ PAt w' P l rd wr ∧ Fr (fun _ => False) w w' := by
  obtain ⟨r, f, k1, k2⟩ := h
  exact (state_any w k1).mono fun e w' ⟨e1, e2⟩ => ⟨e1, ⟨r, f, k1.fr e2 id, k2⟩, e2⟩
theorem pa_write0 (s : ByteArray) (w : World) (h : PAt w P l 0 wr) :
    Calls Try.prog 13 #[.pointer (some ⟨P, 0, none⟩), .string s] w fun e w' => e = .returned (.tuple #[.int .i64 0, .int .i64 14]) ∧ PAt w' P l 0 wr ∧ Fr (· = P) w w' := by
  obtain ⟨r, f, k1, k2⟩ := h
  exact (pwrite_none s w k1).mono fun e w' ⟨e1, e2⟩ => by subst e2; exact ⟨e1, ⟨r, f, k1, k2⟩, Fr.refl _ _⟩
theorem pa_write (s : ByteArray) (hs : s.size ≤ maxLen) (w : World) (h : PAt w P l rd wr) (h0 : 0 < rd) (h1 : rd < 1000000) :
    Calls Try.prog 13 #[.pointer (some ⟨P, 0, none⟩), .string s] w fun e w' => e = .returned (.tuple #[.int .i64 ((wrL l s).length : Nat), .int .i64 0]) ∧ PAt w' P (l ++ wrL l s) rd wr ∧ Fr (· = P) w w' := by
  obtain ⟨r, f, k1, k2⟩ := h
  refine (pwrite_raw s hs w k1 h0 h1).mono fun e w' ⟨m, hm, e1, e2, e3⟩ => ?_
  subst hm
  refine ⟨e1, ⟨put2 r ((f + l.length) % 128) (wrL l s), f, ?_, ?_⟩, e3⟩
  · rw [List.length_append]; exact e2
  · rw [List.length_append, ring_put r f l.length (wrL l s) (by unfold wrL; rw [List.length_take]; have := k1.hn; omega), ← k2]
theorem pa_read (N : Int) (w : World) (h : PAt w P l rd wr) :
    Calls Try.prog 15 #[.pointer (some ⟨P, 0, none⟩), .int .i64 N] w fun e w' => e = .returned (.tuple #[.string ⟨(l.take (readK N l.length)).toArray⟩, .bool (endB l.length (readK N l.length) wr)]) ∧ PAt w' P (l.drop (readK N l.length)) rd wr ∧ Fr (· = P) w w' := by
  obtain ⟨r, f, k1, k2⟩ := h
  have hk := readK_le N l.length
  refine (pread_raw N w k1).mono fun e w' ⟨e1, e2, e3⟩ => ?_
  generalize readK N l.length = k at *
  rw [ring_take r f l.length k hk, ← k2] at e1
  refine ⟨e1, ⟨r, (f + k) % 128, ?_, ?_⟩, e3⟩
  · rw [List.length_drop]; exact e2
  · rw [List.length_drop, ring_drop r f l.length k hk, ← k2]
theorem ra_new (w : World) : Calls Try.prog 8 #[] w fun e w' => e = .returned (.pointer (some ⟨w.heap.size, 0, none⟩)) ∧ RAt w' w.heap.size [] 1 1 ∧ Below w.heap.size w w' :=
  (rnew_any w).mono fun e w' ⟨h1, h2, h3⟩ => ⟨h1, ⟨_, rfl, h2⟩, h3⟩
theorem ra_join (b : Bool) (w : World) (h : RAt w B l rd wr) (h1 : rd < 1000000) (h2 : wr < 1000000) :
    Calls Try.prog 10 #[.pointer (some ⟨B, 0, none⟩), .bool b] w fun e w' => e = .returned (.tuple #[]) ∧ RAt w' B l (if b then rd else rd + 1) (if b then wr + 1 else wr) ∧ Fr (· = B) w w' := by
  obtain ⟨s, k2, k1⟩ := h
  exact (rjoin_any b w k1 h1 h2).mono fun e w' ⟨e1, e2, e3⟩ => ⟨e1, ⟨s, k2, e2⟩, e3⟩
theorem ra_leave (b : Bool) (w : World) (h : RAt w B l rd wr) (h1 : rd < 1000000) (h2 : wr < 1000000) :
    Calls Try.prog 12 #[.pointer (some ⟨B, 0, none⟩), .bool b] w fun e w' => e = .returned (.bool (decide (0 < if b then wr else rd))) ∧ RAt w' B l (if b then rd else rd - 1) (if b then wr - 1 else wr) ∧ Fr (· = B) w w' := by
  obtain ⟨s, k2, k1⟩ := h
  exact (rleave_any b w k1 h1 h2).mono fun e w' ⟨e1, e2, e3⟩ => ⟨e1, ⟨s, k2, e2⟩, e3⟩
theorem ra_write0 (t : ByteArray) (w : World) (h : RAt w B l 0 wr) :
    Calls Try.prog 14 #[.pointer (some ⟨B, 0, none⟩), .string t] w fun e w' => e = .returned (.tuple #[.int .i64 0, .int .i64 14]) ∧ RAt w' B l 0 wr ∧ Fr (· = B) w w' := by
  obtain ⟨s, k2, k1⟩ := h
  exact (rwrite_none t w k1).mono fun e w' ⟨e1, e2⟩ => by subst e2; exact ⟨e1, ⟨s, k2, k1⟩, Fr.refl _ _⟩
theorem ra_write (t : ByteArray) (ht : t.size ≤ maxLen) (w : World) (h : RAt w B l rd wr) (h0 : 0 < rd) (h1 : rd < 1000000) :
    Calls Try.prog 14 #[.pointer (some ⟨B, 0, none⟩), .string t] w fun e w' => e = .returned (.tuple #[.int .i64 ((wrL l t).length : Nat), .int .i64 0]) ∧ RAt w' B (l ++ wrL l t) rd wr ∧ Fr (· = B) w w' := by
  obtain ⟨s, k2, k1⟩ := h
  refine (rwrite_any t ht w k1 h0 h1).mono fun e w' ⟨u, hu, e1, e2, e3⟩ => ?_
  subst k2
  exact ⟨e1, ⟨u, hu, e2⟩, e3⟩
theorem ra_read (N : Int) (w : World) (h : RAt w B l rd wr) :
    Calls Try.prog 16 #[.pointer (some ⟨B, 0, none⟩), .int .i64 N] w fun e w' => e = .returned (.tuple #[.string ⟨(l.take (readK N l.length)).toArray⟩, .bool (endB l.length (readK N l.length) wr)]) ∧ RAt w' B (l.drop (readK N l.length)) rd wr ∧ Fr (· = B) w w' := by
  obtain ⟨s, k2, k1⟩ := h
  refine (rread_any N w k1).mono fun e w' ⟨u, v, hu, hv, e1, e2, e3⟩ => ?_
  subst k2
  rw [data_len, ← hu]
  exact ⟨e1, ⟨v, hv, e2⟩, e3⟩
end Go.Proofs.Ythgjhpiajjamnaa
