/- WalkMakes: a directory more. Plain mathematics. -/
import Derived.Test.YtflncolmehmaaaaYN
namespace Go.Proofs.Ytflncolmehmaaaa
open Ino Pa Mo
variable {U M : Int} {l : List Bs} {t : T}

theorem add_mog (t : T) (d : Nat) (n : Bs) (x j : Nat) : (add t d n x j).mode = (t j).mode ∧ (add t d n x j).owner = (t j).owner ∧ (add t d n x j).group = (t j).group := by
  unfold add setPar setEnts Ino.upd
  by_cases e : j = d
  · subst e
    simp only [if_true]
    split <;> exact ⟨rfl, rfl, rfl⟩
  · simp only [if_neg e]
    split <;> exact ⟨rfl, rfl, rfl⟩
/-- what is there behind a directory more. -/
theorem mk_at (t : T) (u g : Int) (d : Nat) (n : Bs) (m : Int) (i j : Nat) (hd : d ≠ i) :
    (mkT t u g d n 1 m i j).is = (if j = i then true else (t j).is) ∧ (mkT t u g d n 1 m i j).kind = (if j = i then 1 else (t j).kind) ∧
    (mkT t u g d n 1 m i j).mode = (if j = i then m else (t j).mode) ∧ (mkT t u g d n 1 m i j).owner = (if j = i then u else (t j).owner) ∧ (mkT t u g d n 1 m i j).group = (if j = i then g else (t j).group) ∧
    (mkT t u g d n 1 m i j).ents = (if j = d then (t d).ents ++ [(n, i)] else if j = i then [] else (t j).ents) := by
  have hm : ∀ j, (madeT t u g d n 1 m i j).is = (if j = i then true else (t j).is) ∧ (madeT t u g d n 1 m i j).kind = (if j = i then 1 else (t j).kind) ∧
      (madeT t u g d n 1 m i j).mode = (if j = i then m else (t j).mode) ∧ (madeT t u g d n 1 m i j).owner = (if j = i then u else (t j).owner) ∧ (madeT t u g d n 1 m i j).group = (if j = i then g else (t j).group) ∧
      (madeT t u g d n 1 m i j).ents = (if j = d then (t d).ents ++ [(n, i)] else if j = i then [] else (t j).ents) := by
    intro j
    unfold madeT
    obtain ⟨a1, a2, a3⟩ := add_mog (Ino.upd t i (madeN 1 m u g 0 i)) d n i j
    rw [a1, a2, a3, add_is, add_kind, add_ents, upd_other _ _ hd]
    by_cases e : j = i
    · subst e
      rw [upd_same]
      simp only [if_true]
      exact ⟨rfl, rfl, rfl, rfl, rfl, by rw [if_neg (Ne.symm hd), if_neg (Ne.symm hd)]; rfl⟩
    · rw [upd_other _ _ e]
      exact ⟨(if_neg e).symm, (if_neg e).symm, (if_neg e).symm, (if_neg e).symm, (if_neg e).symm, by rw [if_neg e]⟩
  unfold mkT
  by_cases e : j = i
  · subst e
    rw [upd_same]
    exact hm j
  · rw [upd_other _ _ e]
    exact hm j
theorem Chn.may1 (h : Chn U M l t) (u g want : Int) : mayT t 1 u g want = mayB 511 0 0 true u g want := by
  unfold mayT
  rw [h.root.1, h.root.2.1, h.root.2.2, h.kind 1 (by omega) (by omega)]
  rfl
theorem Chn.may2 (h : Chn U M l t) (u g want : Int) {j : Nat} (h1 : 2 ≤ j) (h2 : j ≤ l.length + 1) : mayT t j u g want = mayB M U 9 true u g want := by
  unfold mayT
  obtain ⟨a, b, c⟩ := h.own j h1 h2
  rw [a, b, c, h.kind j (by omega) h2]
  rfl
theorem Chn.mays (h : Chn U M l t) {u g want : Int} (h1 : mayB 511 0 0 true u g want = true) (h2 : mayB M U 9 true u g want = true) (j : Nat) (j1 : 1 ≤ j) (j2 : j ≤ l.length + 1) : mayT t j u g want = true := by
  by_cases e : j = 1
  · rw [e, h.may1]; exact h1
  · rw [h.may2 u g want (by omega) j2]; exact h2
theorem Chn.downs (h : Chn U M l t) (hn : ∀ n ∈ l, nameOk n = true) {u g : Int} (h1 : mayB 511 0 0 true u g 1 = true) (h2 : mayB M U 9 true u g 1 = true) (m : Nat) (hm : m ≤ l.length) : downT t u g 1 (l.take m) = (m + 1, 0) := by
  have := h.down hn u g m 0 (by omega) (fun i i1 i2 => h.mays h1 h2 i (by omega) (by omega))
  rw [List.drop_zero, show 0 + m + 1 = m + 1 by omega] at this
  exact this
theorem name_bad {n : Bs} (h : nameOk n = true) : anyBad n = false := by
  have := bad_pth (l := [n]) (by intro m hm; rw [List.mem_singleton.1 hm]; exact h)
  unfold anyBad pth at this
  rw [List.any_cons, List.any_append, Bool.or_eq_false_iff, Bool.or_eq_false_iff] at this
  exact this.2.1
/-- where a name more is looked up, behind these: t may hold more of them. -/
theorem Chn.place {k : Nat} {n : Bs} (h : Chn U M l t) (hn : ∀ n ∈ l, nameOk n = true) (hk : k ≤ l.length) (hk4 : k ≤ 4) (hno : nameOk n = true) (hr : Rts U M) : placeP t 1 U 9 (pth (l.take k) ++ 47 :: n) = ⟨k + 1, n, false, 0⟩ := by
  have hnt : ∀ m ∈ l.take k, nameOk m = true := fun m hm => hn m (List.mem_of_mem_take hm)
  have hc := name_chars hno
  have hs : ∀ c ∈ n, c ≠ 47 := fun c q => (hc.2.2.2.2 c q).2.2
  have e0 : splE (pth (l.take k) ++ 47 :: n) = 0 := splE_pth hnt (by rw [List.length_take]; omega) n hc.2.1 hs (name_bad hno)
  have e1 : nam (pth (l.take k) ++ 47 :: n) = l.take k ++ [n] := by
    rw [nam_pth2 hnt n hs, List.filter_cons, if_pos (keep_name hno)]
    rfl
  have e2 : lastN (l.take k ++ [n]) = n := List.getLastD_concat
  have e3 : (l.take k ++ [n]).dropLast = l.take k := List.dropLast_concat
  have e4 := h.downs hn (u := U) (g := 9) hr.root1 hr.own1 k hk
  have e5 : lookE t (k + 1) U 9 = 0 := by
    unfold lookE
    rw [if_pos (h.kind (k + 1) (by omega) (by omega)), if_pos (h.mays hr.root1 hr.own1 (k + 1) (by omega) (by omega))]
  have e6 : dirP (pth (l.take k) ++ 47 :: n) = false := by
    unfold dirP
    rw [last_pth hnt n hs]
    have a1 : n ≠ [] := fun q => by rw [q] at hc; exact absurd hc.1 (by decide)
    simp [a1, hc.2.2.1, hc.2.2.2.1]
  unfold placeP
  rw [if_pos e0, e1, abs_pth, e2, e3, e6, if_neg (fun q => q.elim (fun q => by simp at q) hc.2.2.2.1), downP_abs h, e4]
  simp only [if_true]
  rw [if_pos e5]
theorem Chn.step {n : Bs} (h : Chn U M l t) (hn : ∀ n ∈ l, nameOk n = true) (hl : l.length ≤ 3) (hno : nameOk n = true) (hr : Rts U M) :
    mkdirP t 1 U 9 (pth (l ++ [n])) M = (mkT t U 9 (l.length + 1) n 1 M (l.length + 2), 0) ∧ Chn U M (l ++ [n]) (mkT t U 9 (l.length + 1) n 1 M (l.length + 2)) := by
  have hp := h.place (k := l.length) hn (Nat.le_refl _) (by omega) hno hr
  rw [List.take_length, ← pth_snoc] at hp
  have hlast := h.last
  have hf := h.free (by omega)
  have hlk : (lookP t ((l.length + 1 : Nat) : Int) n).2 = false := by
    have hc := name_chars hno
    unfold lookP
    split
    · rw [if_neg hc.2.2.1, if_neg hc.2.2.2.1, Int.toNat_natCast, hlast]
      rfl
    · rfl
  have hM := mkdir_ok h.s hr.rm hp hf hr.rk (h.is_ _ (by omega) (Nat.le_refl _)) (h.kind _ (by omega) (Nat.le_refl _)) hno (by rw [hlast]; rfl) (by rw [hlast]; decide) (h.mays hr.root2 hr.own2 _ (by omega) (Nat.le_refl _)) hlk
  refine ⟨hM, ?_⟩
  have hne : l.length + 1 ≠ l.length + 2 := by omega
  have ha := fun j => mk_at t U 9 (l.length + 1) n M (l.length + 2) j hne
  have hs : Sound (mkT t U 9 (l.length + 1) n 1 M (l.length + 2)) := by
    have := sound_mkdir h.s 1 U 9 (pth (l ++ [n])) M
    rw [hM] at this
    exact this
  generalize mkT t U 9 (l.length + 1) n 1 M (l.length + 2) = t' at *
  have hL : (l ++ [n]).length = l.length + 1 := by simp
  refine ⟨hs, fun j h1 h2 => ?_, fun j h1 => ?_, fun j h1 h2 => ?_, fun j m hj => ?_, ?_, ?_, fun j h1 h2 => ?_⟩
  · rw [(ha j).1]
    by_cases e : j = l.length + 2
    · rw [if_pos e]
    · rw [if_neg e]; exact h.is_ j h1 (by omega)
  · rw [(ha j).1, if_neg (by omega)]
    exact h.not_ j (by omega)
  · rw [(ha j).2.1]
    by_cases e : j = l.length + 2
    · rw [if_pos e]
    · rw [if_neg e]; exact h.kind j h1 (by omega)
  · rw [(ha (j + 1)).2.2.2.2.2]
    by_cases e : j = l.length
    · subst e
      rw [List.getElem?_append_right (Nat.le_refl _), Nat.sub_self] at hj
      cases hj
      rw [if_pos rfl, hlast]; rfl
    · have hjl : j < l.length := by
        have := (List.getElem?_eq_some_iff.1 hj).1
        omega
      rw [List.getElem?_append_left hjl] at hj
      rw [if_neg (by omega), if_neg (by omega)]
      exact h.ent j m hj
  · rw [hL, (ha _).2.2.2.2.2, if_neg (by omega), if_pos rfl]
  · rw [(ha 1).2.2.1, (ha 1).2.2.2.1, (ha 1).2.2.2.2.1, if_neg (by omega), if_neg (by omega), if_neg (by omega)]
    exact h.root
  · rw [(ha j).2.2.1, (ha j).2.2.2.1, (ha j).2.2.2.2.1]
    by_cases e : j = l.length + 2
    · rw [if_pos e, if_pos e, if_pos e]; exact ⟨rfl, rfl, rfl⟩
    · rw [if_neg e, if_neg e, if_neg e]; exact h.own j h1 (by omega)
/-- it is made but once. -/
theorem Chn.again {n : Bs} (h : Chn U M (l ++ [n]) t) (hn : ∀ m ∈ l ++ [n], nameOk m = true) (hl : l.length ≤ 3) (hr : Rts U M) : mkdirP t 1 U 9 (pth (l ++ [n])) M = (t, 5) := by
  have hno := hn n (by simp)
  have hp := h.place (k := l.length) hn (by simp) (by omega) hno hr
  rw [List.take_left, ← pth_snoc] at hp
  have hlk := h.look (j := l.length) (n := n) (by rw [List.getElem?_append_right (Nat.le_refl _), Nat.sub_self]; rfl) hno
  unfold mkdirP
  rw [hp]
  simp only [hr.rm, if_true, hlk]
/-- .. and found by its path, with a stroke behind it. -/
theorem Chn.found (h : Chn U M l t) (hn : ∀ n ∈ l, nameOk n = true) (hl : l.length ≤ 4) (x : Bs) (hx : x = [] ∨ x = [46]) {u g : Int} (h1 : mayB 511 0 0 true u g 1 = true) (h2 : mayB M U 9 true u g 1 = true) :
    findP t 1 u g (pth l ++ 47 :: x) = (l.length + 1, 0) := by
  have hs : ∀ c ∈ x, c ≠ 47 := by rcases hx with rfl | rfl <;> simp
  have e0 : splE (pth l ++ 47 :: x) = 0 := splE_pth hn hl x (by rcases hx with rfl | rfl <;> decide) hs (by rcases hx with rfl | rfl <;> decide)
  have e1 : nam (pth l ++ 47 :: x) = l := by
    rw [nam_pth2 hn x hs]
    rcases hx with rfl | rfl
    · exact List.append_nil l
    · exact List.append_nil l
  have e4 := h.downs hn (u := u) (g := g) h1 h2 l.length (Nat.le_refl _)
  rw [List.take_length] at e4
  unfold findP
  rw [if_pos e0, e1, abs_pth, downP_abs h, e4]
  simp only [if_true]
  rw [if_neg (fun q => q.2 (h.kind _ (by omega) (Nat.le_refl _)))]
theorem Chn.first (h : Chn U M l t) (hn : ∀ n ∈ l, nameOk n = true) (hl : l.length = 1) {u g : Int} (h1 : mayB 511 0 0 true u g 1 = true) :
    findP t 1 u g (pth l ++ [47, 46]) = (2, 0) := by
  have e0 : splE (pth l ++ [47, 46]) = 0 := splE_pth hn (by omega) [46] (by decide) (by simp) (by decide)
  have e1 : nam (pth l ++ [47, 46]) = l := by
    have := nam_pth2 hn [46] (by simp)
    rw [show [([46] : Bs)].filter keepN = [] from rfl, List.append_nil] at this
    exact this
  have e4 := h.down hn u g 1 0 (by omega) (fun i i1 i2 => by
    obtain rfl : i = 1 := by omega
    rw [h.may1]; exact h1)
  rw [List.drop_zero, List.take_of_length_le (by omega)] at e4
  unfold findP
  rw [if_pos e0, e1, abs_pth l [46], downP_abs h, e4]
  simp only [if_true]
  rw [if_neg (fun q => q.2 (h.kind _ (by omega) (by omega)))]
theorem Chn.barred (h : Chn U M l t) (hn : ∀ n ∈ l, nameOk n = true) (hl : l.length ≤ 4) (hl2 : 2 ≤ l.length) {u g : Int} (h1 : mayB 511 0 0 true u g 1 = true) (h2 : mayB M U 9 true u g 1 = false) :
    findP t 1 u g (pth l ++ [47, 46]) = (0, 4) := by
  have e0 : splE (pth l ++ [47, 46]) = 0 := splE_pth hn hl [46] (by decide) (by simp) (by decide)
  have e1 : nam (pth l ++ [47, 46]) = l := by
    have := nam_pth2 hn [46] (by simp)
    rw [show [([46] : Bs)].filter keepN = [] from rfl, List.append_nil] at this
    exact this
  have e4 := h.stop hn u g (by rw [h.may1]; exact h1) (by rw [h.may2 u g 1 (by omega) (by omega)]; exact h2) hl2
  unfold findP
  rw [if_pos e0, e1, abs_pth l [46], downP_abs h, e4]
  rfl
end Go.Proofs.Ytflncolmehmaaaa
