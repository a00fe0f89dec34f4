/- The parts of a path that are not empty: plain facts on lists; rows of strings. -/
import Derived.Test.YtjopmchbphjliaaGreatDoorPaW7
import Derived.Deep.RegionHeld3
import Derived.Deep.AppendLies
import Derived.Deep.DrawnRows
namespace Go.Proofs.YtjopmchbphjliaaGreatDoor
open Go.RowKit Go.Shelf

theorem E_zero {l : List UInt8} (h0 : l ≠ []) (h1 : l.length ≤ 128) (h2 : anyLong l = false) (h3 : anyBad l = false) : splE l = 0 := by
  unfold splE; rw [if_neg h0, if_neg (by omega), h2, h3]; rfl
theorem last_at (s : ByteArray) (h : 0 < s.size) : s.data.toList.getLast? = some s[s.size - 1] := by
  rw [List.getLast?_eq_getElem?, List.getElem?_eq_getElem (by simp; omega)]
  simp; rfl
def Rd (w : World) (v : Value) (l : List (List UInt8)) : Prop :=
  ∃ p cap, v = .slice p l.length cap ∧ l.length ≤ cap ∧ cap ≤ maxLen ∧ ∀ j x, l[j]? = some x → ∃ g, p = some ⟨g, 0, none⟩ ∧ w.cell? ⟨g, j, none⟩ = some (strV x)
theorem Rd.of_row {w : World} {base : Nat} {v : Value} {l : List (List UInt8)} (h : w.ownsRow base 9 1 v l.length (l.map strV)) : Rd w v l := by
  rcases h.2 with ⟨hv, h0⟩ | ⟨g, cap, cur, hv, hb, hg, hn, hc, hs, ht⟩
  · have := List.length_eq_zero_iff.1 h0
    subst this
    exact ⟨none, 0, hv, Nat.le_refl _, Nat.zero_le _, fun j x hx => by simp at hx⟩
  · refine ⟨_, cap, hv, hn, hc, fun j x hx => ⟨g, rfl, ?_⟩⟩
    subst hv
    have hj := (List.getElem?_eq_some_iff.1 hx).1
    rw [h.cellAt j (by omega), List.getElem?_map, hx]; rfl
theorem Rd.draw {w w' : World} {v : Value} {l : List (List UInt8)} (h : Rd w v l) (hd : Dr w w') : Rd w' v l := by
  obtain ⟨n, rfl⟩ := hd; exact h
theorem Rd.below {w w' : World} {v : Value} {l : List (List UInt8)} (h : Rd w v l) (hb : Below w.heap.size w w') : Rd w' v l := by
  obtain ⟨p, cap, hv, h1, h2, h3⟩ := h
  refine ⟨p, cap, hv, h1, h2, fun j x hx => ?_⟩
  obtain ⟨g, hp, hc⟩ := h3 j x hx
  exact ⟨g, hp, (hb.cell (p := ⟨g, j, none⟩) (cell_lt hc)).trans hc⟩
theorem add_zero (g j : Nat) : (⟨g, 0, none⟩ : Addr).add j = ⟨g, j, none⟩ := by unfold Addr.add; split <;> simp_all
/-- cells from an address on. -/
def News (W : World) (g : Nat) (news : List Value) : Prop := ∀ j u, news[j]? = some u → W.cell? ((⟨g, 0, none⟩ : Addr).add j) = some u
theorem News.lt {W : World} {g : Nat} {news : List Value} (h : News W g news) (h0 : 0 < news.length) : g < W.heap.size := by
  have := h 0 _ (List.getElem?_eq_getElem h0)
  rw [add_zero] at this
  exact cell_lt this
theorem News.below {W W' : World} {g n : Nat} {news : List Value} (h : News W g news) (hb : Below n W W') (hg : g < n) : News W' g news := fun j u hu => by
  have := h j u hu
  rw [add_zero] at this ⊢
  exact (hb.cell (p := ⟨g, j, none⟩) hg).trans this
theorem News.alloc {W : World} {g : Nat} {news : List Value} (h : News W g news) (o : Obj) : News (W.alloc o) g news := fun j u hu => by
  have := h j u hu
  rw [add_zero] at this ⊢
  exact (World.grownBy_alloc W o none).cell_far ⟨g, j, none⟩ (cell_lt this) (by simp) ▸ this
theorem News.drew {W : World} {g : Nat} {news : List Value} (h : News W g news) : News W.drew g news := h
theorem News.grown {W W' : World} {g : Nat} {row : Option Nat} {news : List Value} (h : News W g news) (hg : W.grownBy W' row) (hne : some g ≠ row) : News W' g news := fun j u hu => by
  have h2 := h j u hu
  rw [add_zero] at h2 ⊢
  rw [hg.cell_far ⟨g, j, none⟩ (cell_lt h2) hne]; exact h2
theorem Rd.of_own {w : World} {base : Nat} {v : Value} {k : Nat} {xs : List Value} {l : List (List UInt8)} (h : w.ownsRow base 9 1 v k xs) (hk : l.length = k) (hx : l.map strV = xs) : Rd w v l := by
  subst hk hx; exact Rd.of_row h
theorem News.one (W : World) (v : Value) : News (W.alloc (.cells #[v] 9)) W.heap.size [v] := World.news_of_block (cs := #[v]) (t := 9) (fr := (0, 0)) (heap_alloc_new W _)
theorem one_strs (ns : List (List UInt8)) : ∀ u ∈ ns.map strV, u.oneCell' = true := by
  intro u hu; obtain ⟨x, _, rfl⟩ := List.mem_map.1 hu; rfl

def fullP (p : List UInt8) : Bool := p != []
def nonE (l : List UInt8) : List (List UInt8) := (spl l).filter fullP
/-- the state of the walk over a text's bytes: from, and how far. -/
def partInv (l : List UInt8) (f i : Nat) (out : List (List UInt8)) : Prop :=
  if i ≤ l.length then nonE l = out ++ (glue ((l.take i).drop f) (spl (l.drop i))).filter fullP else nonE l = out
theorem part_start (l : List UInt8) : partInv l 0 0 [] := by
  unfold partInv
  rw [if_pos (Nat.zero_le _)]
  show nonE l = (glue [] (spl l)).filter fullP
  rw [glue_nil _ (spl_ne l)]; rfl
theorem drop_cons (l : List UInt8) (i : Nat) (c : UInt8) (h : l[i]? = some c) : l.drop i = c :: l.drop (i + 1) := by
  obtain ⟨hi, hc⟩ := List.getElem?_eq_some_iff.1 h
  rw [List.drop_eq_getElem_cons hi, hc]
theorem take_drop_succ (l : List UInt8) (f i : Nat) (c : UInt8) (hf : f ≤ i) (h : l[i]? = some c) : (l.take (i + 1)).drop f = (l.take i).drop f ++ [c] := by
  obtain ⟨hi, hc⟩ := List.getElem?_eq_some_iff.1 h
  rw [List.take_add_one, h]
  show (l.take i ++ [c]).drop f = _
  rw [List.drop_append_of_le_length (by rw [List.length_take]; omega)]
theorem part_next {l : List UInt8} {f i : Nat} {out : List (List UInt8)} {c : UInt8} (hf : f ≤ i) (h : l[i]? = some c) (hc : c ≠ 47) (hp : partInv l f i out) : partInv l f (i + 1) out := by
  have hi := (List.getElem?_eq_some_iff.1 h).1
  unfold partInv at hp ⊢
  rw [if_pos (by omega)] at hp
  rw [if_pos (by omega), take_drop_succ l f i c hf h, hp, drop_cons l i c h, spl_cons c _ hc, glue_glue]
theorem part_len (l : List UInt8) (f i : Nat) (hi : i ≤ l.length) : ((l.take i).drop f).length = i - f := by
  rw [List.length_drop, List.length_take]; omega
theorem part_sep {l : List UInt8} {f i : Nat} {out : List (List UInt8)} (h : l[i]? = some 47) (hp : partInv l f i out) :
    (f < i → partInv l (i + 1) (i + 1) (out ++ [(l.take i).drop f])) ∧ (¬ f < i → partInv l (i + 1) (i + 1) out) := by
  have hi := (List.getElem?_eq_some_iff.1 h).1
  have hl := part_len l f i (by omega)
  unfold partInv at hp ⊢
  rw [if_pos (by omega), drop_cons l i 47 h, spl_sep] at hp
  have e : (l.take (i + 1)).drop (i + 1) = [] := by rw [List.drop_eq_nil_iff]; rw [List.length_take]; omega
  have hq : nonE l = out ++ (((l.take i).drop f ++ []) :: spl (l.drop (i + 1))).filter fullP := hp
  rw [List.append_nil, List.filter_cons] at hq
  rw [if_pos (by omega), e, glue_nil _ (spl_ne _), if_pos (by omega)]
  constructor
  · intro hlt
    have : fullP ((l.take i).drop f) = true := by unfold fullP; rw [bne_iff_ne]; intro e; rw [e] at hl; simp at hl; omega
    rw [if_pos this] at hq
    rw [hq]; simp
  · intro hlt
    have : (l.take i).drop f = [] := List.length_eq_zero_iff.1 (by omega)
    rw [this, if_neg (by decide)] at hq
    exact hq
theorem part_end {l : List UInt8} {f : Nat} {out : List (List UInt8)} (hp : partInv l f l.length out) :
    (f < l.length → nonE l = out ++ [(l.take l.length).drop f]) ∧ (¬ f < l.length → nonE l = out) := by
  have hl := part_len l f l.length (Nat.le_refl _)
  unfold partInv at hp
  rw [if_pos (Nat.le_refl _), List.drop_length] at hp
  rw [hp]
  show (f < l.length → out ++ ([((l.take l.length).drop f) ++ []]).filter fullP = _) ∧ _
  rw [List.append_nil, List.filter_cons]
  constructor
  · intro hlt
    have : fullP ((l.take l.length).drop f) = true := by unfold fullP; rw [bne_iff_ne]; intro e; rw [e] at hl; simp at hl; omega
    rw [if_pos this]; rfl
  · intro hlt
    have : (l.take l.length).drop f = [] := List.length_eq_zero_iff.1 (by omega)
    rw [this]
    show out ++ [] = out
    exact List.append_nil _
theorem part_done {l : List UInt8} {f i : Nat} {out : List (List UInt8)} (h : l.length < i) (hp : partInv l f i out) : nonE l = out := by
  unfold partInv at hp; rwa [if_neg (by omega)] at hp
theorem part_last {l : List UInt8} {f i : Nat} {out : List (List UInt8)} (h : l.length < i) (hp : nonE l = out) : partInv l f i out := by
  unfold partInv; rwa [if_neg (by omega)]
def notDot (p : List UInt8) : Bool := p != [46]
theorem nam_nonE (l : List UInt8) : nam l = (nonE l).filter notDot := by
  unfold nam nonE
  rw [List.filter_filter]
  congr 1
  funext p
  unfold keepN fullP notDot
  cases (p != []) <;> cases (p != [46]) <;> rfl
theorem long_nonE (l : List UInt8) : (nonE l).any longN = anyLong l := by
  unfold nonE anyLong
  induction spl l with
  | nil => rfl
  | cons p ps ih =>
    rw [List.filter_cons, List.any_cons]
    by_cases h : p = []
    · subst h; rw [if_neg (by decide), ih]; rfl
    · rw [if_pos (by unfold fullP; exact bne_iff_ne.2 h), List.any_cons, ih]
theorem last_nonE {l : List UInt8} (h : tailS l ≠ []) : (nonE l).getLast? = some (tailS l) := by
  unfold nonE
  rcases last_split l with hp | ⟨a, b, rfl, hp⟩
  · rw [(tail_plain l hp).1] at h ⊢
    rw [spl_one l hp, List.filter_cons, if_pos (by unfold fullP; exact bne_iff_ne.2 h)]; rfl
  · rw [(tail_of a b hp).1] at h ⊢
    rw [spl_append, spl_one b hp, List.filter_append, List.filter_cons, if_pos (by unfold fullP; exact bne_iff_ne.2 h)]; simp
theorem tail_stroke {l : List UInt8} (h0 : l ≠ []) : (l.getLast? = some 47 ↔ tailS l = []) := by
  constructor
  · intro h
    obtain ⟨x, hx⟩ := List.getLast?_eq_some_iff.1 h
    rw [hx]; exact (tail_of x [] (fun c hc => by cases hc)).1
  · intro h
    have h2 := up_tail l
    rw [h, List.append_nil] at h2
    rcases up_end l with h3 | h3
    · rw [h3] at h2; exact absurd h2.symm h0
    · rw [h2] at h3; exact h3
/-- what the reference reckons for Dir. -/
def lastDot (l : List UInt8) : Bool := match (nonE l).getLast? with
  | some p => p == [46] || p == [46, 46]
  | none => false
theorem dir_eq {l : List UInt8} (h0 : l ≠ []) : dirP l = ((l.getLast? == some 47) || lastDot l) := by
  unfold dirP lastDot
  rw [lastP_tail]
  by_cases h : tailS l = []
  · rw [h, beq_iff_eq.2 ((tail_stroke h0).2 h)]; rfl
  · rw [last_nonE h, beq_eq_false_iff_ne.2 h, beq_eq_false_iff_ne.2 (fun e => h ((tail_stroke h0).1 e))]
theorem len_nonE (l : List UInt8) : (nonE l).length ≤ l.length + 1 := by
  refine Nat.le_trans (List.length_filter_le _ _) ?_
  induction l with
  | nil => exact Nat.le_refl _
  | cons c r ih =>
    by_cases h : c = 47
    · subst h; rw [spl_sep]; simp; omega
    · rw [spl_cons c r h]
      cases hr : spl r with
      | nil => simp [glue]
      | cons p ps => rw [hr] at ih; simp [glue] at ih ⊢; omega
end Go.Proofs.YtjopmchbphjliaaGreatDoor
