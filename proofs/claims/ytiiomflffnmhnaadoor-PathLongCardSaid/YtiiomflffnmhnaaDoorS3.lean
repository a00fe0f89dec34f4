/- What follows of names and paths: plain facts on lists. -/
import Derived.Test.YtiiomflffnmhnaaDoorS2
namespace Go.Proofs.YtiiomflffnmhnaaDoor
open Go

theorem parts_plain (l : List UInt8) : ∀ p ∈ spl l, ∀ c ∈ p, c ≠ 47 := by
  induction l with
  | nil => intro p hp c hc; simp [spl] at hp; subst hp; cases hc
  | cons x r ih =>
    by_cases h : x = 47
    · subst h; rw [spl_sep]
      intro p hp c hc
      rcases List.mem_cons.1 hp with rfl | hp
      · cases hc
      · exact ih p hp c hc
    · rw [spl_cons x r h]
      cases hr : spl r with
      | nil => exact absurd hr (spl_ne r)
      | cons q qs =>
        rw [hr] at ih
        intro p hp c hc
        rcases List.mem_cons.1 hp with rfl | hp
        · rcases List.mem_cons.1 hc with rfl | hc
          · exact h
          · exact ih q (by simp) c hc
        · exact ih p (by simp [hp]) c hc
theorem name_parts {l : List UInt8} (h : nameB l = true) : 1 ≤ l.length ∧ l.length ≤ 14 ∧ l ≠ [46] ∧ l ≠ [46, 46] ∧ anyBad l = false ∧ ∀ c ∈ l, c ≠ 47 := by
  unfold nameB at h
  simp only [Bool.and_eq_true, decide_eq_true_eq, bne_iff_ne, Bool.not_eq_true'] at h
  obtain ⟨⟨⟨⟨⟨h1, h2⟩, h3⟩, h4⟩, h5⟩, h6⟩ := h
  refine ⟨h1, h2, h3, h4, h5, fun c hc e => ?_⟩
  subst e
  have : l.contains 47 = true := by rw [List.contains_iff_mem]; exact hc
  rw [h6] at this; cases this
theorem name_mk {l : List UInt8} (h1 : 1 ≤ l.length) (h2 : l.length ≤ 14) (h3 : l ≠ [46]) (h4 : l ≠ [46, 46]) (h5 : anyBad l = false) (h6 : ∀ c ∈ l, c ≠ 47) : nameB l = true := by
  unfold nameB
  have : l.contains 47 = false := by
    cases hc : l.contains 47
    · rfl
    · rw [List.contains_iff_mem] at hc; exact absurd rfl (h6 47 hc)
  rw [decide_eq_true h1, decide_eq_true h2, bne_iff_ne.2 h3, bne_iff_ne.2 h4, h5, this]; rfl
theorem name_keep {l : List UInt8} (h : nameB l = true) : keepN l = true := by
  obtain ⟨h1, _, h3, _⟩ := name_parts h
  unfold keepN
  rw [bne_iff_ne.2 h3, bne_iff_ne.2 (fun e => by subst e; simp at h1)]; rfl
theorem name_nam {l : List UInt8} (h : nameB l = true) : nam l = [l] := by
  obtain ⟨_, _, _, _, _, h6⟩ := name_parts h
  unfold nam
  rw [spl_one l h6, List.filter_cons, if_pos (name_keep h)]; rfl
theorem name_dir {l : List UInt8} (h : nameB l = true) : dirP l = false := by
  obtain ⟨h1, h2, h3, h4, h5, h6⟩ := name_parts h
  unfold dirP
  rw [lastP_tail, (tail_plain l h6).1, beq_eq_false_iff_ne.2 h3, beq_eq_false_iff_ne.2 h4, beq_eq_false_iff_ne.2 (fun e => by subst e; simp at h1)]; rfl
theorem E_zero {l : List UInt8} (h0 : l ≠ []) (h1 : l.length ≤ 128) (h2 : anyLong l = false) (h3 : anyBad l = false) : splE l = 0 := by
  unfold splE; rw [if_neg h0, if_neg (by omega), h2, h3]; rfl
theorem E_zero_inv {l : List UInt8} (h : splE l = 0) : l ≠ [] ∧ l.length ≤ 128 ∧ anyLong l = false ∧ anyBad l = false := by
  unfold splE at h
  by_cases h0 : l = []
  · rw [if_pos h0] at h; cases h
  rw [if_neg h0] at h
  by_cases h1 : 128 < l.length
  · rw [if_pos h1] at h; cases h
  rw [if_neg h1] at h
  cases h2 : anyLong l
  · rw [h2] at h
    cases h3 : anyBad l
    · exact ⟨h0, by omega, rfl, rfl⟩
    · rw [h3] at h; cases h
  · rw [h2] at h; cases h
theorem ok_all {l : List UInt8} (h : splE l = 0) : splN l = nam l ∧ splAbs l = absP l ∧ splDir l = dirP l := by
  unfold splN splAbs splDir; rw [h]; exact ⟨rfl, rfl, rfl⟩
theorem err_all {l : List UInt8} {k : Nat} (h : splE l = k) (hk : k ≠ 0) : splN l = [] ∧ splAbs l = false ∧ splDir l = false := by
  unfold splN splAbs splDir; rw [h, if_neg hk, if_neg hk, if_neg hk]; exact ⟨rfl, rfl, rfl⟩
theorem name_fwd {l : List UInt8} (h : nameB l = true) : splE l = 0 ∧ splN l = [l] ∧ splAbs l = false ∧ splDir l = false := by
  obtain ⟨h1, h2, h3, h4, h5, h6⟩ := name_parts h
  have hE : splE l = 0 := by
    refine E_zero (fun e => by subst e; simp at h1) (by omega) ?_ h5
    unfold anyLong; rw [spl_one l h6, List.any_cons]
    have : longN l = false := by unfold longN; rw [decide_eq_false (by omega)]
    rw [this]; rfl
  obtain ⟨e1, e2, e3⟩ := ok_all hE
  refine ⟨hE, by rw [e1, name_nam h], ?_, by rw [e3, name_dir h]⟩
  rw [e2]; unfold absP
  cases l with
  | nil => rfl
  | cons c r => rw [List.head?_cons]; exact beq_eq_false_iff_ne.2 (fun e => h6 c (by simp) (Option.some.inj e))
theorem name_back {l : List UInt8} (hE : splE l = 0) (hN : splN l = [l]) (hD : splDir l = false) : nameB l = true := by
  obtain ⟨h0, h1, h2, h3⟩ := E_zero_inv hE
  obtain ⟨e1, e2, e3⟩ := ok_all hE
  rw [e1] at hN
  rw [e3] at hD
  have hm : l ∈ nam l := by rw [hN]; simp
  unfold nam at hm
  obtain ⟨hm, hk⟩ := List.mem_filter.1 hm
  have hp := parts_plain l l hm
  have hl : longN l = false := by
    unfold anyLong at h2
    rw [List.any_eq_false] at h2
    simpa using h2 l hm
  unfold keepN at hk
  simp only [Bool.and_eq_true, bne_iff_ne] at hk
  refine name_mk ?_ ?_ hk.2 ?_ h3 hp
  · rcases Nat.eq_zero_or_pos l.length with h | h
    · exact absurd (List.length_eq_zero_iff.1 h) hk.1
    · exact h
  · unfold longN at hl; have := of_decide_eq_false hl; omega
  · intro e
    unfold dirP at hD
    rw [lastP_tail, (tail_plain l hp).1, e] at hD
    cases hD

/-- what Base tells. -/
theorem base_facts (l : List UInt8) : (∀ c ∈ (baseS l).2, c ≠ 47) ∧ (∃ k, l = (baseS l).1 ++ (baseS l).2 ++ List.replicate k 47) ∧
    ((baseS l).2 = [] → (baseS l).1 = l) ∧ ((baseS l).2 = [] ∨ (baseS l).1 = [] ∨ (baseS l).1.getLast? = some 47) := by
  obtain ⟨k, hk, hl⟩ := trim_split l
  unfold baseS
  by_cases h : trimS l = []
  · rw [if_pos h]
    exact ⟨(fun c hc => by cases hc), ⟨0, by simp⟩, fun _ => rfl, Or.inl rfl⟩
  · rw [if_neg h]
    refine ⟨tail_clean _, ⟨k, by rw [up_tail]; exact hk⟩, fun e => ?_, Or.inr (up_end _)⟩
    have hl := hl.resolve_left h
    have e2 : tailS (trimS l) = [] := e
    have := up_tail (trimS l)
    rw [e2, List.append_nil] at this
    rcases up_end (trimS l) with h2 | h2
    · rw [h2] at this; exact absurd this.symm h
    · rw [this] at h2; exact absurd h2 hl
end Go.Proofs.YtiiomflffnmhnaaDoor
