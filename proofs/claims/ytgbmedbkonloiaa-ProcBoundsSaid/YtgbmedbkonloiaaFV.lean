/- The program's table beside blocks that are kept; what ProcChildren makes. -/
import Derived.Test.YtgbmedbkonloiaaFU
namespace Go.Proofs.Ytgbmedbkonloiaa
open Go.RowKit
set_option linter.unusedVariables false
set_option linter.unusedSimpArgs false
section
variable {w0 W W' : World} {T : Nat} {s : TB} {m : Int} {K : Nat → Prop}
structure TK (K : Nat → Prop) (w0 W : World) (T : Nat) (m : Int) (s : TB) : Prop where
  ex : ∃ S, TAt W w0.heap.size T S s ∧ ∀ k, K k → ¬ S k ∧ k < W.heap.size
  sd : Sd s
  lb : s.last ≤ m
  bel : Below w0.heap.size w0 W
theorem TL.tk (h : TL w0 W T m s) : TK (fun _ => False) w0 W T m s := by
  obtain ⟨⟨S, h1⟩, k, l, b⟩ := h
  exact ⟨⟨S, h1, fun _ h => h.elim⟩, k, l, b⟩
theorem TK.step {S : Nat → Prop} {s' : TB} {m' : Int} (h : TAt W w0.heap.size T S s) (h4 : ∀ k, K k → ¬ S k ∧ k < W.heap.size) (b : Below w0.heap.size w0 W) (k : Sd s') (l : s'.last ≤ m') (d : Does W w0.heap.size T S s' W') : TK K w0 W' T m' s' ∧ Fr (fun k => ¬ K k) W W' := by
  obtain ⟨S', h1, f, g⟩ := d
  refine ⟨⟨⟨S', h1, fun k hK => ⟨fun hs => ?_, Nat.lt_of_lt_of_le (h4 k hK).2 f.size⟩⟩, k, l, f.below b (Nat.le_refl _) fun g hg => (h.lt hg).1⟩, f.mono fun k _ hs hK => (h4 k hK).1 hs⟩
  rcases g k hs with h | h
  · exact (h4 k hK).1 h
  · have := (h4 k hK).2; omega
theorem TK.fresh (h : TK K w0 W T m s) (f : Fr (fun _ => False) W W') : TK K w0 W' T m s := by
  obtain ⟨⟨S, h1, h4⟩, k, l, b⟩ := h
  exact ⟨⟨S, h1.fr f (fun _ _ => id), fun k hk => ⟨(h4 k hk).1, Nat.lt_of_lt_of_le (h4 k hk).2 f.size⟩⟩, k, l, f.below b (Nat.le_refl _) (fun _ h => h.elim)⟩
/-- blocks of the law's own are written, and new ones are kept. -/
theorem TK.other {K' : Nat → Prop} (h : TK K w0 W T m s) (f : Fr K W W') (hb : ∀ k, K k → w0.heap.size ≤ k) (hk : ∀ k, K' k → (K k ∨ W.heap.size ≤ k) ∧ k < W'.heap.size) : TK K' w0 W' T m s := by
  obtain ⟨⟨S, h1, h4⟩, k, l, b⟩ := h
  refine ⟨⟨S, h1.fr f (fun k hs hK => (h4 k hK).1 hs), fun k hK' => ⟨fun hs => ?_, (hk k hK').2⟩⟩, k, l, f.below b (Nat.le_refl _) hb⟩
  rcases (hk k hK').1 with h | h
  · exact (h4 k h).1 hs
  · have := (h1.lt hs).2; omega
theorem tk_fork (a : Int) (r : Bool) (ha : I64 a) (hm : m ≤ 1000000) (h : TK K w0 W T m s) :
    Calls Try.prog 17 #[.pointer (some ⟨T, 0, none⟩), .int .i64 a, .bool r] W fun e w' => e = .returned (.tuple #[.int .i64 (forkN s a r), .int .i64 (forkE s a r)]) ∧ TK K w0 w' T (m + 1) (forkT s a r) ∧ Fr (fun k => ¬ K k) W w' := by
  obtain ⟨⟨S, h1, h4⟩, k, l, b⟩ := h
  exact (fork_any a r ha h1 k (Int.le_trans l hm)).mono fun e w' ⟨e1, d⟩ => ⟨e1, TK.step h1 h4 b (sd_fork k a r) (by have := (last_fork s a r).2; omega) d⟩
theorem tk_becomes (a u : Int) (ha : I64 a) (hm : m ≤ 1000000) (h : TK K w0 W T m s) :
    Calls Try.prog 20 #[.pointer (some ⟨T, 0, none⟩), .int .i64 a, .int .i64 u] W fun e w' => e = .returned (.int .i64 (becE s a u)) ∧ TK K w0 w' T m (becT s a u) ∧ Fr (fun k => ¬ K k) W w' := by
  obtain ⟨⟨S, h1, h4⟩, k, l, b⟩ := h
  exact (becomes_any a u ha h1 k (Int.le_trans l hm)).mono fun e w' ⟨e1, d⟩ => ⟨e1, TK.step h1 h4 b (sd_bec k a u) (by rw [last_bec]; exact l) d⟩
theorem tk_leads (a : Int) (ha : I64 a) (h : TK K w0 W T m s) :
    Calls Try.prog 21 #[.pointer (some ⟨T, 0, none⟩), .int .i64 a] W fun e w' => e = .returned (.int .i64 (leadE s a)) ∧ TK K w0 w' T m (leadT s a) ∧ Fr (fun k => ¬ K k) W w' := by
  obtain ⟨⟨S, h1, h4⟩, k, l, b⟩ := h
  exact (leads_any a ha h1).mono fun e w' ⟨e1, d⟩ => ⟨e1, TK.step h1 h4 b (sd_lead k a) (by rw [last_lead]; exact l) d⟩
theorem tk_exit (a st : Int) (ha : I64 a) (h : TK K w0 W T m s) :
    Calls Try.prog 18 #[.pointer (some ⟨T, 0, none⟩), .int .i64 a, .int .i64 st] W fun e w' => e = .returned (.int .i64 (exitE s a)) ∧ TK K w0 w' T m (exitT s a st) ∧ Fr (fun k => ¬ K k) W w' := by
  obtain ⟨⟨S, h1, h4⟩, k, l, b⟩ := h
  exact (exit_any a st ha h1 k).mono fun e w' ⟨e1, d⟩ => ⟨e1, TK.step h1 h4 b (sd_exit k a st) (by rw [last_exit]; exact l) d⟩
theorem tk_wait (a c : Int) (ha : I64 a) (hm : m ≤ 1000000) (h : TK K w0 W T m s) :
    Calls Try.prog 19 #[.pointer (some ⟨T, 0, none⟩), .int .i64 a, .int .i64 c] W fun e w' => e = .returned (w3V (waitV s a c)) ∧ TK K w0 w' T m (waitT s a c) ∧ Fr (fun k => ¬ K k) W w' := by
  obtain ⟨⟨S, h1, h4⟩, k, l, b⟩ := h
  exact (wait_any a c ha h1 k (Int.le_trans l hm)).mono fun e w' ⟨e1, d⟩ => ⟨e1, TK.step h1 h4 b (sd_wait k a c) (by rw [last_wait]; exact l) d⟩
theorem tk_count (u : Int) (hm : m ≤ 1000000) (h : TK K w0 W T m s) :
    Calls Try.prog 13 #[.pointer (some ⟨T, 0, none⟩), .int .i64 u] W fun e w' => e = .returned (.int .i64 (cntP s.L u : Nat)) ∧ TK K w0 w' T m s ∧ Fr (fun _ => False) W w' := by
  have H := h
  obtain ⟨⟨S, ⟨M, nb, v, h1, hS⟩, h4⟩, k, l, b⟩ := h
  exact (count_any u h1 k.asc (by have := k.len; omega)).mono fun e w' ⟨e1, f⟩ => ⟨e1, H.fresh f, f⟩
theorem tk_get (x : Int) (hx : I64 x) (h : TK K w0 W T m s) :
    Calls Try.prog 11 #[.pointer (some ⟨T, 0, none⟩), .int .i64 x] W fun e w' => e = .returned (getV s.L x) ∧ TK K w0 w' T m s ∧ Fr (fun _ => False) W w' := by
  have H := h
  obtain ⟨⟨S, ⟨M, nb, v, h1, hS⟩, h4⟩, k, l, b⟩ := h
  exact (get_any x hx h1).mono fun e w' ⟨e1, f⟩ => ⟨e1, H.fresh f, f⟩
theorem tk_all (hm : m ≤ 1000000) (h : TK K w0 W T m s) :
    Calls Try.prog 16 #[.pointer (some ⟨T, 0, none⟩)] W fun e w' => ∃ v', e = .returned v' ∧ w'.ownsRow W.heap.size 32 7 v' s.L.length (rowsC s.L) ∧ TK K w0 w' T m s := by
  have H := h
  obtain ⟨⟨S, ⟨M, nb, v, h1, hS⟩, h4⟩, k, l, b⟩ := h
  exact (all_any h1 k.asc k.rng k.len (by omega)).mono fun e w' ⟨v', e1, o, f⟩ => ⟨v', e1, o, H.fresh f⟩
end
/-! the tables of ProcChildren -/
def pA : Pr := ⟨1, 0, 0, 1, 0, false, true⟩
def pB (st : Int) (d : Bool) : Pr := ⟨2, 1, 7, 2, st, d, false⟩
def kidC (se : Nat → Int) (par : Int) (j : Nat) : Pr := ⟨3 + j, par, 7, se j, 0, false, false⟩
def kidsC (se : Nat → Int) (par : Int) (k : Nat) : List Pr := (List.range k).map (kidC se par)
def tC (se : Nat → Int) (k : Nat) : TB := ⟨pA :: pB 0 false :: kidsC se 2 k, 2 + k, [7]⟩
def tX (se : Nat → Int) (k : Nat) (x : Int) : TB := ⟨pA :: pB 0 false :: (kidsC se 2 k ++ [⟨3 + k, 2, 7, x, 0, false, false⟩]), 3 + k, [7]⟩
def tE (se : Nat → Int) (k : Nat) (st : Int) : TB := ⟨pA :: pB st true :: kidsC se 1 k, 2 + k, [7]⟩
def tZ (se : Nat → Int) (k : Nat) : TB := ⟨pA :: kidsC se 1 k, 2 + k, [7]⟩
theorem c_start : leadT (becT (forkT new0 1 true) 2 7) 2 = tC (fun _ => 0) 0 := by rfl
theorem c_start2 : becE (forkT new0 1 true) 2 7 = 0 ∧ leadE (becT (forkT new0 1 true) 2 7) 2 = 0 := by decide +kernel
theorem c_fork (se : Nat → Int) : ∀ k, k < 5 → forkE (tC se k) 2 false = 0 ∧ forkN (tC se k) 2 false = 3 + k ∧ forkT (tC se k) 2 false = tX se k 2
  | 0, _ => ⟨rfl, rfl, rfl⟩
  | 1, _ => ⟨rfl, rfl, rfl⟩
  | 2, _ => ⟨rfl, rfl, rfl⟩
  | 3, _ => ⟨rfl, rfl, rfl⟩
  | 4, _ => ⟨rfl, rfl, rfl⟩
theorem c_lead (se : Nat → Int) : ∀ k, k < 5 → leadT (tX se k 2) (3 + k) = tX se k (3 + k)
  | 0, _ => rfl
  | 1, _ => rfl
  | 2, _ => rfl
  | 3, _ => rfl
  | 4, _ => rfl
theorem c_next (se : Nat → Int) : ∀ k, k < 5 → tX se k (se k) = tC se (k + 1)
  | 0, _ => rfl
  | 1, _ => rfl
  | 2, _ => rfl
  | 3, _ => rfl
  | 4, _ => rfl
theorem c_exit (se : Nat → Int) (st : Int) : ∀ k, k < 6 → exitE (tC se k) 2 = 0 ∧ exitT (tC se k) 2 st = tE se k st ∧ cntP (tE se k st).L 7 = k + 1
  | 0, _ => ⟨rfl, rfl, rfl⟩
  | 1, _ => ⟨rfl, rfl, rfl⟩
  | 2, _ => ⟨rfl, rfl, rfl⟩
  | 3, _ => ⟨rfl, rfl, rfl⟩
  | 4, _ => ⟨rfl, rfl, rfl⟩
  | 5, _ => ⟨rfl, rfl, rfl⟩
theorem c_get (se : Nat → Int) (st : Int) (k : Nat) (hk : k < 6) (j : Nat) (hj : j < k) : atP (tE se k st).L (3 + j) = some (kidC se 1 j) := by
  have hsplit : (tE se k st).L = [pA, pB st true] ++ kidsC se 1 k := rfl
  have h1 : (kidsC se 1 k)[j]? = some (kidC se 1 j) := by unfold kidsC; rw [List.getElem?_map, List.getElem?_range hj]; rfl
  have h2 : (tE se k st).L[j + 2]? = some (kidC se 1 j) := h1
  unfold atP
  refine find_at (k := j + 2) ?_ h2 (by show ((kidC se 1 j).pid == _) = true; exact beq_self_eq_true _)
  intro q hq
  obtain ⟨i, hi, e⟩ := List.mem_take_iff_getElem.1 hq
  match i, hi, e with
  | 0, _, e => rw [← e]; show ((1 : Int) == 3 + j) = false; simp; omega
  | 1, _, e => rw [← e]; show ((2 : Int) == 3 + j) = false; simp; omega
  | i + 2, hi, e =>
    have : (tE se k st).L[i + 2]? = some q := by rw [← e]; exact List.getElem?_eq_getElem _
    have h3 : (kidsC se 1 k)[i]? = some q := this
    unfold kidsC at h3
    rw [List.getElem?_map, List.getElem?_range (by omega)] at h3
    cases h3
    show ((3 + (i : Int)) == 3 + j) = false
    simp; omega
theorem c_wait (se : Nat → Int) (st : Int) : ∀ k, k < 6 → waitV (tE se k st) 1 0 = (2, st, 0) ∧ waitT (tE se k st) 1 0 = tZ se k ∧ waitV (tZ se k) 1 2 = (0, 0, 16) ∧ cntP (waitT (tZ se k) 1 2).L 7 = k
  | 0, _ => ⟨rfl, rfl, rfl, rfl⟩
  | 1, _ => ⟨rfl, rfl, rfl, rfl⟩
  | 2, _ => ⟨rfl, rfl, rfl, rfl⟩
  | 3, _ => ⟨rfl, rfl, rfl, rfl⟩
  | 4, _ => ⟨rfl, rfl, rfl, rfl⟩
  | 5, _ => ⟨rfl, rfl, rfl, rfl⟩
end Go.Proofs.Ytgbmedbkonloiaa
