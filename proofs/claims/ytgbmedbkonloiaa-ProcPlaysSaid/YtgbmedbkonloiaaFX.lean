/- Both tables; a step on both. -/
import Derived.Test.YtgbmedbkonloiaaFV
namespace Go.Proofs.Ytgbmedbkonloiaa
open Go.RowKit
set_option linter.unusedVariables false
set_option linter.unusedSimpArgs false
section
variable {w0 W W' : World} {T D : Nat} {s d : TB} {K : Nat → Prop} {m : Int}
/-- both tables above the blocks of w0, and none of the blocks K. -/
structure TP (K : Nat → Prop) (w0 W : World) (T D : Nat) (m : Int) (s d : TB) : Prop where
  ex : ∃ S R, TAt W w0.heap.size T S s ∧ DAt W w0.heap.size D R d ∧ (∀ k, S k → R k → False) ∧ ∀ k, K k → ¬ S k ∧ ¬ R k ∧ k < W.heap.size
  sds : Sd s
  sdd : Sd d
  lbs : s.last ≤ m
  lbd : d.last ≤ m
  bel : Below w0.heap.size w0 W
theorem TP.stepP {S R : Nat → Prop} {s' : TB} {m' : Int} (h1 : TAt W w0.heap.size T S s) (h2 : DAt W w0.heap.size D R d) (h3 : ∀ k, S k → R k → False) (h4 : ∀ k, K k → ¬ S k ∧ ¬ R k ∧ k < W.heap.size)
    (b : Below w0.heap.size w0 W) (k : Sd s') (kd : Sd d) (l : s'.last ≤ m') (ld : d.last ≤ m') (e : Does W w0.heap.size T S s' W') : TP K w0 W' T D m' s' d ∧ Fr (fun k => ¬ K k) W W' := by
  obtain ⟨S', k1, f, g⟩ := e
  refine ⟨⟨⟨S', R, k1, h2.fr f (fun k hr hs => h3 k hs hr), fun k hs hr => ?_, fun k hK => ⟨fun hs => ?_, (h4 k hK).2.1, Nat.lt_of_lt_of_le (h4 k hK).2.2 f.size⟩⟩, k, kd, l, ld, f.below b (Nat.le_refl _) fun g hg => (h1.lt hg).1⟩, f.mono fun k _ hs hK => (h4 k hK).1 hs⟩
  · rcases g k hs with h | h
    · exact h3 k h hr
    · have := (h2.lt hr).2; omega
  · rcases g k hs with h | h
    · exact (h4 k hK).1 h
    · have := (h4 k hK).2.2; omega
theorem TP.stepD {S R : Nat → Prop} {d' : TB} {m' : Int} (h1 : TAt W w0.heap.size T S s) (h2 : DAt W w0.heap.size D R d) (h3 : ∀ k, S k → R k → False) (h4 : ∀ k, K k → ¬ S k ∧ ¬ R k ∧ k < W.heap.size)
    (b : Below w0.heap.size w0 W) (k : Sd s) (kd : Sd d') (l : s.last ≤ m') (ld : d'.last ≤ m') (e : DDoes W w0.heap.size D R d' W') : TP K w0 W' T D m' s d' ∧ Fr (fun k => ¬ K k) W W' := by
  obtain ⟨R', k1, f, g⟩ := e
  refine ⟨⟨⟨S, R', h1.fr f (fun k hs hr => h3 k hs hr), k1, fun k hs hr => ?_, fun k hK => ⟨(h4 k hK).1, fun hr => ?_, Nat.lt_of_lt_of_le (h4 k hK).2.2 f.size⟩⟩, k, kd, l, ld, f.below b (Nat.le_refl _) fun g hg => (h2.lt hg).1⟩, f.mono fun k _ hr hK => (h4 k hK).2.1 hr⟩
  · rcases g k hr with h | h
    · exact h3 k hs h
    · have := (h1.lt hs).2; omega
  · rcases g k hr with h | h
    · exact (h4 k hK).2.1 h
    · have := (h4 k hK).2.2; omega
theorem TP.fresh (h : TP K w0 W T D m s d) (f : Fr (fun _ => False) W W') : TP K w0 W' T D m s d := by
  obtain ⟨⟨S, R, h1, h2, h3, h4⟩, k, kd, l, ld, b⟩ := h
  exact ⟨⟨S, R, h1.fr f (fun _ _ => id), h2.fr f (fun _ _ => id), h3, fun k hk => ⟨(h4 k hk).1, (h4 k hk).2.1, Nat.lt_of_lt_of_le (h4 k hk).2.2 f.size⟩⟩, k, kd, l, ld, f.below b (Nat.le_refl _) (fun _ h => h.elim)⟩
/-- blocks that are laid now are kept. -/
theorem TP.keep {K' : Nat → Prop} (h : TP K w0 W T D m s d) (f : Fr (fun _ => False) W W') (hk : ∀ k, K' k → (K k ∨ W.heap.size ≤ k) ∧ k < W'.heap.size) : TP K' w0 W' T D m s d := by
  obtain ⟨⟨S, R, h1, h2, h3, h4⟩, k, kd, l, ld, b⟩ := h
  refine ⟨⟨S, R, h1.fr f (fun _ _ => id), h2.fr f (fun _ _ => id), h3, fun k hK => ⟨fun hs => ?_, fun hr => ?_, (hk k hK).2⟩⟩, k, kd, l, ld, f.below b (Nat.le_refl _) (fun _ h => h.elim)⟩
  · rcases (hk k hK).1 with h | h
    · exact (h4 k h).1 hs
    · have := (h1.lt hs).2; omega
  · rcases (hk k hK).1 with h | h
    · exact (h4 k h).2.1 hr
    · have := (h2.lt hr).2; omega
/-- kept blocks, of the law's own, are written. -/
theorem TP.write (h : TP K w0 W T D m s d) (f : Fr K W W') (hb : ∀ k, K k → w0.heap.size ≤ k) : TP K w0 W' T D m s d := by
  obtain ⟨⟨S, R, h1, h2, h3, h4⟩, k, kd, l, ld, b⟩ := h
  exact ⟨⟨S, R, h1.fr f (fun k hs hK => (h4 k hK).1 hs), h2.fr f (fun k hr hK => (h4 k hK).2.1 hr), h3, fun k hK => ⟨(h4 k hK).1, (h4 k hK).2.1, Nat.lt_of_lt_of_le (h4 k hK).2.2 f.size⟩⟩, k, kd, l, ld, f.below b (Nat.le_refl _) hb⟩
theorem TP.free {K' : Nat → Prop} (h : TP K w0 W T D m s d) (hk : ∀ k, K' k → K k) : TP K' w0 W T D m s d := by
  obtain ⟨⟨S, R, h1, h2, h3, h4⟩, k, kd, l, ld, b⟩ := h
  exact ⟨⟨S, R, h1, h2, h3, fun k hK => h4 k (hk k hK)⟩, k, kd, l, ld, b⟩
theorem TP.tk (h : TP K w0 W T D m s d) : TK K w0 W T m s := by
  obtain ⟨⟨S, R, h1, h2, h3, h4⟩, k, kd, l, ld, b⟩ := h
  exact ⟨⟨S, h1, fun k hK => ⟨(h4 k hK).1, (h4 k hK).2.2⟩⟩, k, l, b⟩
/-- the document's table as it lies. -/
theorem TP.doc (h : TP K w0 W T D m s d) : ∃ v u, DR W w0.heap.size D v u d.L d.last d.users := by
  obtain ⟨⟨S, R, h1, ⟨v, u, h2, _⟩, h3, h4⟩, k, kd, l, ld, b⟩ := h
  exact ⟨v, u, h2⟩
theorem TP.cellD (h : TP K w0 W T D m s d) : ∃ p q c e, W.cell? ⟨D, 0, none⟩ = some (.slice p d.L.length c) ∧ W.cell? ⟨D, 2, none⟩ = some (.slice q d.users.length e) := by
  obtain ⟨v, u, h2⟩ := h.doc
  obtain ⟨p, c, rfl, -⟩ := ownG_form h2.o
  obtain ⟨q, e, rfl, -⟩ := ownG_form h2.us
  exact ⟨p, q, c, e, h2.cell.1, h2.cell.2.2⟩
section
variable (h : TP K w0 W T D m s d) (hm : m ≤ 1000000)
include h hm
theorem tp_fork (a : Int) (r : Bool) (ha : I64 a) :
    Calls Try.prog 17 #[.pointer (some ⟨T, 0, none⟩), .int .i64 a, .bool r] W fun e w' => e = .returned (.tuple #[.int .i64 (forkN s a r), .int .i64 (forkE s a r)]) ∧ TP K w0 w' T D (m + 1) (forkT s a r) d ∧ Fr (fun k => ¬ K k) W w' := by
  obtain ⟨⟨S, R, h1, h2, h3, h4⟩, k, kd, l, ld, b⟩ := h
  exact (fork_any a r ha h1 k (Int.le_trans l hm)).mono fun e w' ⟨e1, x⟩ => ⟨e1, TP.stepP h1 h2 h3 h4 b (sd_fork k a r) kd (by have := (last_fork s a r).2; omega) (by omega) x⟩
theorem td_fork (a : Int) (r : Bool) (ha : I64 a) :
    Calls Try.prog 23 #[.pointer (some ⟨D, 0, none⟩), .int .i64 a, .bool r] W fun e w' => e = .returned (.tuple #[.int .i64 (forkN d a r), .int .i64 (forkE d a r)]) ∧ TP K w0 w' T D (m + 1) s (forkT d a r) ∧ Fr (fun k => ¬ K k) W w' := by
  obtain ⟨⟨S, R, h1, h2, h3, h4⟩, k, kd, l, ld, b⟩ := h
  exact (rfork_any a r h2 kd (Int.le_trans ld hm)).mono fun e w' ⟨e1, x⟩ => ⟨e1, TP.stepD h1 h2 h3 h4 b k (sd_fork kd a r) (by omega) (by have := (last_fork d a r).2; omega) x⟩
theorem tp_bec (a u : Int) (ha : I64 a) :
    Calls Try.prog 20 #[.pointer (some ⟨T, 0, none⟩), .int .i64 a, .int .i64 u] W fun e w' => e = .returned (.int .i64 (becE s a u)) ∧ TP K w0 w' T D m (becT s a u) d ∧ Fr (fun k => ¬ K k) W w' := by
  obtain ⟨⟨S, R, h1, h2, h3, h4⟩, k, kd, l, ld, b⟩ := h
  exact (becomes_any a u ha h1 k (Int.le_trans l hm)).mono fun e w' ⟨e1, x⟩ => ⟨e1, TP.stepP h1 h2 h3 h4 b (sd_bec k a u) kd (by rw [last_bec]; exact l) ld x⟩
theorem td_bec (a u : Int) (ha : I64 a) :
    Calls Try.prog 24 #[.pointer (some ⟨D, 0, none⟩), .int .i64 a, .int .i64 u] W fun e w' => e = .returned (.int .i64 (becE d a u)) ∧ TP K w0 w' T D m s (becT d a u) ∧ Fr (fun k => ¬ K k) W w' := by
  obtain ⟨⟨S, R, h1, h2, h3, h4⟩, k, kd, l, ld, b⟩ := h
  exact (rbecomes_any a u h2 kd (by have := kd.len; omega)).mono fun e w' ⟨e1, x⟩ => ⟨e1, TP.stepD h1 h2 h3 h4 b k (sd_bec kd a u) l (by rw [last_bec]; exact ld) x⟩
theorem tp_lead (a : Int) (ha : I64 a) :
    Calls Try.prog 21 #[.pointer (some ⟨T, 0, none⟩), .int .i64 a] W fun e w' => e = .returned (.int .i64 (leadE s a)) ∧ TP K w0 w' T D m (leadT s a) d ∧ Fr (fun k => ¬ K k) W w' := by
  have _hm := hm
  obtain ⟨⟨S, R, h1, h2, h3, h4⟩, k, kd, l, ld, b⟩ := h
  exact (leads_any a ha h1).mono fun e w' ⟨e1, x⟩ => ⟨e1, TP.stepP h1 h2 h3 h4 b (sd_lead k a) kd (by rw [last_lead]; exact l) ld x⟩
theorem td_lead (a : Int) (ha : I64 a) :
    Calls Try.prog 25 #[.pointer (some ⟨D, 0, none⟩), .int .i64 a] W fun e w' => e = .returned (.int .i64 (leadE d a)) ∧ TP K w0 w' T D m s (leadT d a) ∧ Fr (fun k => ¬ K k) W w' := by
  obtain ⟨⟨S, R, h1, h2, h3, h4⟩, k, kd, l, ld, b⟩ := h
  exact (rleads_any a h2 kd (by have := kd.len; omega)).mono fun e w' ⟨e1, x⟩ => ⟨e1, TP.stepD h1 h2 h3 h4 b k (sd_lead kd a) l (by rw [last_lead]; exact ld) x⟩
theorem tp_exit (a st : Int) (ha : I64 a) :
    Calls Try.prog 18 #[.pointer (some ⟨T, 0, none⟩), .int .i64 a, .int .i64 st] W fun e w' => e = .returned (.int .i64 (exitE s a)) ∧ TP K w0 w' T D m (exitT s a st) d ∧ Fr (fun k => ¬ K k) W w' := by
  have _hm := hm
  obtain ⟨⟨S, R, h1, h2, h3, h4⟩, k, kd, l, ld, b⟩ := h
  exact (exit_any a st ha h1 k).mono fun e w' ⟨e1, x⟩ => ⟨e1, TP.stepP h1 h2 h3 h4 b (sd_exit k a st) kd (by rw [last_exit]; exact l) ld x⟩
theorem td_exit (a st : Int) (ha : I64 a) :
    Calls Try.prog 26 #[.pointer (some ⟨D, 0, none⟩), .int .i64 a, .int .i64 st] W fun e w' => e = .returned (.int .i64 (exitE d a)) ∧ TP K w0 w' T D m s (exitT d a st) ∧ Fr (fun k => ¬ K k) W w' := by
  obtain ⟨⟨S, R, h1, h2, h3, h4⟩, k, kd, l, ld, b⟩ := h
  exact (rexit_any a st h2 kd (by have := kd.len; omega)).mono fun e w' ⟨e1, x⟩ => ⟨e1, TP.stepD h1 h2 h3 h4 b k (sd_exit kd a st) l (by rw [last_exit]; exact ld) x⟩
theorem tp_wait (a c : Int) (ha : I64 a) :
    Calls Try.prog 19 #[.pointer (some ⟨T, 0, none⟩), .int .i64 a, .int .i64 c] W fun e w' => e = .returned (w3V (waitV s a c)) ∧ TP K w0 w' T D m (waitT s a c) d ∧ Fr (fun k => ¬ K k) W w' := by
  obtain ⟨⟨S, R, h1, h2, h3, h4⟩, k, kd, l, ld, b⟩ := h
  exact (wait_any a c ha h1 k (Int.le_trans l hm)).mono fun e w' ⟨e1, x⟩ => ⟨e1, TP.stepP h1 h2 h3 h4 b (sd_wait k a c) kd (by rw [last_wait]; exact l) ld x⟩
theorem td_wait (a c : Int) (ha : I64 a) :
    Calls Try.prog 27 #[.pointer (some ⟨D, 0, none⟩), .int .i64 a, .int .i64 c] W fun e w' => e = .returned (w3V (waitV d a c)) ∧ TP K w0 w' T D m s (waitT d a c) ∧ Fr (fun k => ¬ K k) W w' := by
  obtain ⟨⟨S, R, h1, h2, h3, h4⟩, k, kd, l, ld, b⟩ := h
  exact (rwait_any a c h2 kd (Int.le_trans ld hm)).mono fun e w' ⟨e1, x⟩ => ⟨e1, TP.stepD h1 h2 h3 h4 b k (sd_wait kd a c) l (by rw [last_wait]; exact ld) x⟩
theorem tp_count (u : Int) :
    Calls Try.prog 13 #[.pointer (some ⟨T, 0, none⟩), .int .i64 u] W fun e w' => e = .returned (.int .i64 (cntP s.L u : Nat)) ∧ TP K w0 w' T D m s d ∧ Fr (fun _ => False) W w' := by
  have H := h
  obtain ⟨⟨S, R, ⟨M, nb, v, h1, hS⟩, h2, h3, h4⟩, k, kd, l, ld, b⟩ := h
  exact (count_any u h1 k.asc (by have := k.len; omega)).mono fun e w' ⟨e1, f⟩ => ⟨e1, H.fresh f, f⟩
theorem td_count (u : Int) :
    Calls Try.prog 14 #[.pointer (some ⟨D, 0, none⟩), .int .i64 u] W fun e w' => e = .returned (.int .i64 (cntP d.L u : Nat)) ∧ TP K w0 w' T D m s d ∧ Fr (fun _ => False) W w' := by
  have H := h
  obtain ⟨⟨S, R, h1, ⟨v, u', h2, hR⟩, h3, h4⟩, k, kd, l, ld, b⟩ := h
  exact (rcount_any u h2 (by have := kd.len; omega)).mono fun e w' ⟨e1, f⟩ => ⟨e1, H.fresh (f ▸ Fr.refl _ _), (f ▸ Fr.refl _ _)⟩
theorem tp_get (x : Int) (hx : I64 x) :
    Calls Try.prog 11 #[.pointer (some ⟨T, 0, none⟩), .int .i64 x] W fun e w' => e = .returned (getV s.L x) ∧ TP K w0 w' T D m s d ∧ Fr (fun _ => False) W w' := by
  have _hm := hm
  have H := h
  obtain ⟨⟨S, R, ⟨M, nb, v, h1, hS⟩, h2, h3, h4⟩, k, kd, l, ld, b⟩ := h
  exact (get_any x hx h1).mono fun e w' ⟨e1, f⟩ => ⟨e1, H.fresh f, f⟩
theorem td_get (x : Int) (hx : I64 x) :
    Calls Try.prog 12 #[.pointer (some ⟨D, 0, none⟩), .int .i64 x] W fun e w' => e = .returned (getV d.L x) ∧ TP K w0 w' T D m s d ∧ Fr (fun _ => False) W w' := by
  have H := h
  obtain ⟨⟨S, R, h1, ⟨v, u', h2, hR⟩, h3, h4⟩, k, kd, l, ld, b⟩ := h
  exact (rget_any x h2 (by have := kd.len; omega)).mono fun e w' ⟨e1, f⟩ => ⟨e1, H.fresh f, f⟩
theorem tp_all :
    Calls Try.prog 16 #[.pointer (some ⟨T, 0, none⟩)] W fun e w' => ∃ v', e = .returned v' ∧ w'.ownsRow W.heap.size 32 7 v' s.L.length (rowsC s.L) ∧ TP K w0 w' T D m s d ∧ Fr (fun _ => False) W w' := by
  have H := h
  obtain ⟨⟨S, R, ⟨M, nb, v, h1, hS⟩, h2, h3, h4⟩, k, kd, l, ld, b⟩ := h
  exact (all_any h1 k.asc k.rng k.len (by omega)).mono fun e w' ⟨v', e1, o, f⟩ => ⟨v', e1, o, H.fresh f, f⟩
end
theorem tp_known (h : TP K w0 W T D m s d) :
    Calls Try.prog 15 #[.pointer (some ⟨T, 0, none⟩)] W fun e w' => e = .returned (.int .i64 s.users.length) ∧ W = w' := by
  obtain ⟨⟨S, R, ⟨M, nb, v, h1, hS⟩, h2, h3, h4⟩, k, kd, l, ld, b⟩ := h
  exact known_any h1
/-- the document's table is laid beside the program's. -/
theorem td_new (h : TL w0 W T m s) (hm : 1 ≤ m) :
    Calls Try.prog 9 #[] W fun r w' => ∃ D, r = .returned (.pointer (some ⟨D, 0, none⟩)) ∧ TP (fun _ => False) w0 w' T D m s new0 := by
  obtain ⟨⟨S, h1⟩, k, l, b⟩ := h
  refine (rnew_any W).mono fun r w' ⟨D, R, e1, h2, f⟩ => ⟨D, e1, ⟨⟨S, R, h1.fr f fun _ _ => id, ?_, fun k hs hr => ?_, fun _ h => h.elim⟩, k, sd_new, l, hm, f.below b (Nat.le_refl _) fun _ h => h.elim⟩⟩
  · obtain ⟨v, u, h3, h4⟩ := h2
    exact ⟨v, u, ⟨h3.hb, own_base h3.o b.size, own_base h3.us b.size, Nat.le_trans b.size h3.base⟩, h4⟩
  · have := (h1.lt hs).2
    have := (h2.lt hr).1
    omega
end
/-- a step. -/
def opP (o : OpP) (s : TB) : TB :=
  if o.kind = 1 then forkT s o.a o.on else if o.kind = 2 then becT s o.a o.b else if o.kind = 3 then leadT s o.a else if o.kind = 4 then exitT s o.a o.b else waitT s o.a o.b
end Go.Proofs.Ytgbmedbkonloiaa
