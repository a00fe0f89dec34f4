/- The walk of ProcReaps. -/
import Derived.Test.YtgbmedbkonloiaaFZ
namespace Go.Proofs.Ytgbmedbkonloiaa
open Go.RowKit
set_option linter.unusedVariables false
set_option linter.unusedSimpArgs false
/-- the table while all but the first one exit: those ahead of j have. -/
structure Ex (L : List Pr) (j : Nat) (s : TB) : Prop where
  len : s.L.length = L.length
  at_ : ∀ (i : Nat) (p : Pr), L[i]? = some p → ∃ p', s.L[i]? = some p' ∧ p'.pid = p.pid ∧ p'.dead = (p.dead || decide (1 ≤ i ∧ i < j)) ∧ (p.dead = false → 1 ≤ i → i < j → p'.status = p.pid)
theorem Ex.start {s : TB} : Ex s.L 1 s := ⟨rfl, fun i p hp => ⟨p, hp, rfl, by rw [show decide (1 ≤ i ∧ i < 1) = false by simp; omega, Bool.or_false], fun _ h1 h2 => by omega⟩⟩
theorem Ex.skip {L : List Pr} {j : Nat} {s : TB} {p : Pr} (h : Ex L j s) (hp : L[j]? = some p) (hd : p.dead = true) : Ex L (j + 1) s := by
  refine ⟨h.len, fun i q hq => ?_⟩
  obtain ⟨q', k1, k2, k3, k4⟩ := h.at_ i q hq
  by_cases e : i = j
  · subst e
    rw [hp] at hq; cases hq
    exact ⟨q', k1, k2, by rw [k3, hd, Bool.true_or, Bool.true_or], fun h => by rw [hd] at h; cases h⟩
  · exact ⟨q', k1, k2, by rw [k3]; congr 1; exact decide_eq_decide.2 (by omega), fun a b c => k4 a b (by omega)⟩
theorem one_of {s : TB} (h : Sd s) {i : Nat} {p : Pr} (hp : s.L[i]? = some p) (h1 : 1 ≤ i) : p.pid ≠ 1 := by
  obtain ⟨q, t, e, e1, e2, e3⟩ := h.head
  have hq : s.L[0]? = some q := by rw [e]; rfl
  have := asc_get h.asc hq hp (by omega)
  rw [e1] at this; exact this
theorem Ex.exit {L : List Pr} {j : Nat} {s : TB} {p : Pr} (h : Ex L j s) (hs : Sd s) (hp : L[j]? = some p) (hd : p.dead = false) (h1 : 1 ≤ j) (ha : L.Pairwise fun p q => p.pid < q.pid) :
    exitE s p.pid = 0 ∧ Ex L (j + 1) (exitT s p.pid p.pid) := by
  obtain ⟨p', k1, k2, k3, k4⟩ := h.at_ j p hp
  have hd' : p'.dead = false := by rw [k3, hd, show decide (1 ≤ j ∧ j < j) = false by simp, Bool.or_false]
  have hat : atP s.L p.pid = some p' := by
    have := at_of_mem hs.asc (List.mem_of_getElem? k1)
    rw [k2] at this; exact this
  have hl := live_of hat hd'
  have hn1 : p.pid ≠ 1 := by rw [← k2]; exact one_of hs k1 h1
  refine ⟨by unfold exitE; rw [hl]; exact if_neg hn1, ?_⟩
  have hT : (exitT s p.pid p.pid).L = s.L.map (exitG p.pid p.pid) := by
    unfold exitT; rw [hl]; simp only; rw [if_neg hn1]; exact exit_map s _ _
  refine ⟨by rw [hT, List.length_map]; exact h.len, fun i q hq => ?_⟩
  obtain ⟨q', m1, m2, m3, m4⟩ := h.at_ i q hq
  refine ⟨exitG p.pid p.pid q', by rw [hT, List.getElem?_map, m1]; rfl, by rw [exitG_pid, m2], ?_, ?_⟩
  · rw [exitG_dead, m3, m2]
    by_cases e : i = j
    · subst e
      rw [hp] at hq; cases hq
      rw [beq_self_eq_true, Bool.or_true, show decide (1 ≤ i ∧ i < i + 1) = true by simp; omega, Bool.or_true]
    · have hne := asc_get ha hp hq e
      rw [show (q.pid == p.pid) = false by simpa using hne, Bool.or_false]
      congr 1; exact decide_eq_decide.2 (by omega)
  · intro hqd g1 g2
    rw [exitG_status, m2]
    by_cases e : i = j
    · subst e
      rw [hp] at hq; cases hq
      rw [if_pos rfl]
    · have hne := asc_get ha hp hq e
      rw [if_neg hne]
      exact m4 hqd g1 (by omega)
/-- all but the first one are dead. -/
structure Al (s : TB) : Prop where
  sd : Sd s
  dead : ∀ (i : Nat) (p : Pr), 1 ≤ i → s.L[i]? = some p → p.dead = true
theorem Al.par {s : TB} (h : Al s) {i : Nat} {p : Pr} (h1 : 1 ≤ i) (hp : s.L[i]? = some p) : p.parent = 1 := by
  have hm := List.mem_of_getElem? hp
  rcases h.sd.par p hm with e | ⟨q, hq⟩
  · exact absurd e (one_of h.sd hp h1)
  · obtain ⟨hq1, hq2⟩ := live_some hq
    obtain ⟨hqm, hqx⟩ := at_some hq1
    obtain ⟨j, hj, e⟩ := List.mem_iff_getElem.1 hqm
    have hqj : s.L[j]? = some q := by rw [List.getElem?_eq_getElem hj, e]
    have hj0 : j = 0 := by
      by_cases e0 : j = 0
      · exact e0
      · have := h.dead j q (by omega) hqj
        rw [hq2] at this; cases this
    subst hj0
    obtain ⟨q0, t, e', e1, _⟩ := h.sd.head
    rw [e'] at hqj
    simp at hqj
    rw [← hqx, ← hqj, e1]
theorem gone_head {s : TB} (h : Sd s) : ∃ q t, s.L = q :: t ∧ kid 1 0 q = false ∧ liveP s.L 1 = some q := by
  obtain ⟨q, t, e, e1, e2, e3⟩ := h.head
  refine ⟨q, t, e, by unfold kid; rw [e3]; rfl, live_of ?_ e2⟩
  have := at_of_mem h.asc (show q ∈ s.L by rw [e]; simp)
  rw [e1] at this; exact this
theorem Al.wait {s : TB} (h : Al s) {p : Pr} (hp : s.L[1]? = some p) : waitV s 1 0 = (p.pid, p.status, 0) ∧ (waitT s 1 0).L = s.L.take 1 ++ s.L.drop 2 ∧ Al (waitT s 1 0) := by
  obtain ⟨q, t, e, hk, hl⟩ := gone_head h.sd
  have hd := h.dead 1 p (by decide) hp
  have hpar := h.par (by decide) hp
  have hg : gone 1 0 p = true := by unfold gone kid; rw [hpar, hd]; rfl
  have hf : s.L.find? (gone 1 0) = some p := by
    refine find_at (k := 1) (fun x hx => ?_) hp hg
    rw [e] at hx
    simp at hx
    subst hx
    unfold gone; rw [hk]; rfl
  obtain ⟨k1, k2⟩ := wait_gone hl hf
  have hL : (waitT s 1 0).L = s.L.take 1 ++ s.L.drop 2 := by rw [k2]; exact drop_at h.sd.asc hp
  refine ⟨k1, hL, sd_wait h.sd 1 0, fun i x hi hx => ?_⟩
  rw [hL, e] at hx
  match i, hi with
  | i + 1, _ =>
    have hx2 : s.L[i + 2]? = some x := by
      rw [e]
      simp at hx ⊢
      exact hx
    exact h.dead (i + 2) x (by omega) hx2
theorem Al.last {s : TB} (h : Al s) (hn : s.L.length = 1) : waitV s 1 0 = (0, 0, 16) ∧ waitT s 1 0 = s := by
  obtain ⟨q, t, e, hk, hl⟩ := gone_head h.sd
  have ht : t = [] := by rw [e] at hn; simp at hn; exact hn
  subst ht
  obtain ⟨k1, k2⟩ := wait_not (a := 1) (c := 0) hl (by rw [e]; simp [gone, hk])
  refine ⟨?_, k2⟩
  rw [k1, e]
  simp [hk]
theorem Ex.al {L : List Pr} {s : TB} (h : Ex L L.length s) (hs : Sd s) : Al s := by
  refine ⟨hs, fun i p' h1 hp => ?_⟩
  have hi : i < L.length := by rw [← h.len]; exact (List.getElem?_eq_some_iff.1 hp).1
  obtain ⟨q, k1, k2, k3, _⟩ := h.at_ i _ (List.getElem?_eq_getElem hi)
  rw [hp] at k1; cases k1
  rw [k3, show decide (1 ≤ i ∧ i < L.length) = true by simp; omega, Bool.or_true]
section
variable {w0 W W' : World} {T D : Nat} {s d : TB} {K : Nat → Prop} {m : Int}
def exiRel (w : World) (T : Nat) (m : Int) (L : List Pr) (v : Value) (B : Nat) (iv : Value) (wr : World) : Prop :=
  ∃ (j : Nat) (s' : TB), iv = .int .i64 j ∧ 1 ≤ j ∧ j ≤ L.length ∧ Ex L j s' ∧ wr.ownsRow B 32 7 v L.length (rowsC L) ∧ TK (fun k => v.ownBlock = some k) w wr T m s'
def reapRel (w : World) (T : Nat) (m : Int) (L L1 : List Pr) (v : Value) (B : Nat) (iv : Value) (wr : World) : Prop :=
  ∃ (j : Nat) (s' : TB), iv = .int .i64 j ∧ 1 ≤ j ∧ j ≤ L.length ∧ Al s' ∧ s'.L = L1.take 1 ++ L1.drop j ∧ wr.ownsRow B 32 7 v L.length (rowsC L) ∧ TK (fun k => v.ownBlock = some k) w wr T m s'
theorem one_len {s : TB} (h : Sd s) : 1 ≤ s.L.length := by
  obtain ⟨q, t, e, _⟩ := h.head
  rw [e]; simp
end
end Go.Proofs.Ytgbmedbkonloiaa
