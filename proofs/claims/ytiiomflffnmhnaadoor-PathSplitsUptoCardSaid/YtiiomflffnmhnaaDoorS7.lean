/- The parts of a path that are not empty: plain facts on lists. -/
import Derived.Test.YtiiomflffnmhnaaDoorS6
namespace Go.Proofs.YtiiomflffnmhnaaDoor
open Go

def fullP (p : List UInt8) : Bool := p != []
def nonE (l : List UInt8) : List (List UInt8) := (spl l).filter fullP
/-- the state of the walk over a text's bytes: from, and how far. -/
def partInv (l : List UInt8) (f i : Nat) (out : List (List UInt8)) : Prop :=
  if i ≤ l.length then nonE l = out ++ (glue ((l.take i).drop f) (spl (l.drop i))).filter fullP else nonE l = out
theorem part_start (l : List UInt8) : partInv l 0 0 [] := by
  unfold partInv
  rw [if_pos (Nat.zero_le _)]
  show nonE l = (glue [] (spl l)).filter fullP
  rw [glue_nil _ (spl_ne l)]; rfl
theorem drop_cons (l : List UInt8) (i : Nat) (c : UInt8) (h : l[i]? = some c) : l.drop i = c :: l.drop (i + 1) := by
  obtain ⟨hi, hc⟩ := List.getElem?_eq_some_iff.1 h
  rw [List.drop_eq_getElem_cons hi, hc]
theorem take_drop_succ (l : List UInt8) (f i : Nat) (c : UInt8) (hf : f ≤ i) (h : l[i]? = some c) : (l.take (i + 1)).drop f = (l.take i).drop f ++ [c] := by
  obtain ⟨hi, hc⟩ := List.getElem?_eq_some_iff.1 h
  rw [List.take_add_one, h]
  show (l.take i ++ [c]).drop f = _
  rw [List.drop_append_of_le_length (by rw [List.length_take]; omega)]
theorem part_next {l : List UInt8} {f i : Nat} {out : List (List UInt8)} {c : UInt8} (hf : f ≤ i) (h : l[i]? = some c) (hc : c ≠ 47) (hp : partInv l f i out) : partInv l f (i + 1) out := by
  have hi := (List.getElem?_eq_some_iff.1 h).1
  unfold partInv at hp ⊢
  rw [if_pos (by omega)] at hp
  rw [if_pos (by omega), take_drop_succ l f i c hf h, hp, drop_cons l i c h, spl_cons c _ hc, glue_glue]
theorem part_len (l : List UInt8) (f i : Nat) (hi : i ≤ l.length) : ((l.take i).drop f).length = i - f := by
  rw [List.length_drop, List.length_take]; omega
theorem part_sep {l : List UInt8} {f i : Nat} {out : List (List UInt8)} (h : l[i]? = some 47) (hp : partInv l f i out) :
    (f < i → partInv l (i + 1) (i + 1) (out ++ [(l.take i).drop f])) ∧ (¬ f < i → partInv l (i + 1) (i + 1) out) := by
  have hi := (List.getElem?_eq_some_iff.1 h).1
  have hl := part_len l f i (by omega)
  unfold partInv at hp ⊢
  rw [if_pos (by omega), drop_cons l i 47 h, spl_sep] at hp
  have e : (l.take (i + 1)).drop (i + 1) = [] := by rw [List.drop_eq_nil_iff]; rw [List.length_take]; omega
  have hq : nonE l = out ++ (((l.take i).drop f ++ []) :: spl (l.drop (i + 1))).filter fullP := hp
  rw [List.append_nil, List.filter_cons] at hq
  rw [if_pos (by omega), e, glue_nil _ (spl_ne _), if_pos (by omega)]
  constructor
  · intro hlt
    have : fullP ((l.take i).drop f) = true := by unfold fullP; rw [bne_iff_ne]; intro e; rw [e] at hl; simp at hl; omega
    rw [if_pos this] at hq
    rw [hq]; simp
  · intro hlt
    have : (l.take i).drop f = [] := List.length_eq_zero_iff.1 (by omega)
    rw [this, if_neg (by decide)] at hq
    exact hq
theorem part_end {l : List UInt8} {f : Nat} {out : List (List UInt8)} (hp : partInv l f l.length out) :
    (f < l.length → nonE l = out ++ [(l.take l.length).drop f]) ∧ (¬ f < l.length → nonE l = out) := by
  have hl := part_len l f l.length (Nat.le_refl _)
  unfold partInv at hp
  rw [if_pos (Nat.le_refl _), List.drop_length] at hp
  rw [hp]
  show (f < l.length → out ++ ([((l.take l.length).drop f) ++ []]).filter fullP = _) ∧ _
  rw [List.append_nil, List.filter_cons]
  constructor
  · intro hlt
    have : fullP ((l.take l.length).drop f) = true := by unfold fullP; rw [bne_iff_ne]; intro e; rw [e] at hl; simp at hl; omega
    rw [if_pos this]; rfl
  · intro hlt
    have : (l.take l.length).drop f = [] := List.length_eq_zero_iff.1 (by omega)
    rw [this]
    show out ++ [] = out
    exact List.append_nil _
theorem part_done {l : List UInt8} {f i : Nat} {out : List (List UInt8)} (h : l.length < i) (hp : partInv l f i out) : nonE l = out := by
  unfold partInv at hp; rwa [if_neg (by omega)] at hp
theorem part_last {l : List UInt8} {f i : Nat} {out : List (List UInt8)} (h : l.length < i) (hp : nonE l = out) : partInv l f i out := by
  unfold partInv; rwa [if_neg (by omega)]
def notDot (p : List UInt8) : Bool := p != [46]
theorem nam_nonE (l : List UInt8) : nam l = (nonE l).filter notDot := by
  unfold nam nonE
  rw [List.filter_filter]
  congr 1
  funext p
  unfold keepN fullP notDot
  cases (p != []) <;> cases (p != [46]) <;> rfl
theorem long_nonE (l : List UInt8) : (nonE l).any longN = anyLong l := by
  unfold nonE anyLong
  induction spl l with
  | nil => rfl
  | cons p ps ih =>
    rw [List.filter_cons, List.any_cons]
    by_cases h : p = []
    · subst h; rw [if_neg (by decide), ih]; rfl
    · rw [if_pos (by unfold fullP; exact bne_iff_ne.2 h), List.any_cons, ih]
theorem last_nonE {l : List UInt8} (h : tailS l ≠ []) : (nonE l).getLast? = some (tailS l) := by
  unfold nonE
  rcases last_split l with hp | ⟨a, b, rfl, hp⟩
  · rw [(tail_plain l hp).1] at h ⊢
    rw [spl_one l hp, List.filter_cons, if_pos (by unfold fullP; exact bne_iff_ne.2 h)]; rfl
  · rw [(tail_of a b hp).1] at h ⊢
    rw [spl_append, spl_one b hp, List.filter_append, List.filter_cons, if_pos (by unfold fullP; exact bne_iff_ne.2 h)]; simp
theorem tail_stroke {l : List UInt8} (h0 : l ≠ []) : (l.getLast? = some 47 ↔ tailS l = []) := by
  constructor
  · intro h
    obtain ⟨x, hx⟩ := List.getLast?_eq_some_iff.1 h
    rw [hx]; exact (tail_of x [] (fun c hc => by cases hc)).1
  · intro h
    have h2 := up_tail l
    rw [h, List.append_nil] at h2
    rcases up_end l with h3 | h3
    · rw [h3] at h2; exact absurd h2.symm h0
    · rw [h2] at h3; exact h3
/-- what the reference reckons for Dir. -/
def lastDot (l : List UInt8) : Bool := match (nonE l).getLast? with
  | some p => p == [46] || p == [46, 46]
  | none => false
theorem dir_eq {l : List UInt8} (h0 : l ≠ []) : dirP l = ((l.getLast? == some 47) || lastDot l) := by
  unfold dirP lastDot
  rw [lastP_tail]
  by_cases h : tailS l = []
  · rw [h, beq_iff_eq.2 ((tail_stroke h0).2 h)]; rfl
  · rw [last_nonE h, beq_eq_false_iff_ne.2 h, beq_eq_false_iff_ne.2 (fun e => h ((tail_stroke h0).1 e))]
theorem len_nonE (l : List UInt8) : (nonE l).length ≤ l.length + 1 := by
  refine Nat.le_trans (List.length_filter_le _ _) ?_
  induction l with
  | nil => exact Nat.le_refl _
  | cons c r ih =>
    by_cases h : c = 47
    · subst h; rw [spl_sep]; simp; omega
    · rw [spl_cons c r h]
      cases hr : spl r with
      | nil => simp [glue]
      | cons p ps => rw [hr] at ih; simp [glue] at ih ⊢; omega
end Go.Proofs.YtiiomflffnmhnaaDoor
