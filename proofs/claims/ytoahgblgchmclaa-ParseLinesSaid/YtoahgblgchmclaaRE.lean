/- Two scripts with a line feed between: what Parse makes of them. -/
import Derived.Test.YtoahgblgchmclaaRD
namespace Go.Proofs.Ytoahgblgchmclaa
set_option linter.unusedVariables false
set_option linter.unusedSimpArgs false
theorem allL_fin (l : Bs) (m : Nat) (out : List Tk) : allL l m l.length out = .ok (out ++ [⟨4, [], l.length⟩]) := by
  cases m with
  | zero => rfl
  | succ m => rw [allL, if_pos (Nat.le_refl _)]
theorem tokens_join {a b : Bs} {ta tb : List Tk} (ha : allA a = .ok ta) (hb : allA b = .ok tb) (h92 : ∀ i, i + 1 = a.length → ¬ a.getD i 0 = 92) (hl : a.length + 1 + b.length ≤ 4096) :
    ∃ ua ub, ta = ua ++ [⟨4, [], a.length⟩] ∧ tb = ub ++ [⟨4, [], b.length⟩] ∧
      ((∃ q, allA (a ++ 10 :: b) = .err q 12) ∨ allA (a ++ 10 :: b) = .ok (ua ++ ⟨2, [10], a.length⟩ :: (ub.map (mvT (a.length + 1)) ++ [⟨4, [], a.length + 1 + b.length⟩]))) := by
  unfold allA at ha hb
  rw [if_neg (by omega)] at ha hb
  have hn : (a ++ 10 :: b).length = a.length + 1 + b.length := by rw [List.length_append, List.length_cons]; omega
  unfold allA
  rw [hn, if_neg (by omega)]
  obtain ⟨ua, h1, h2⟩ := em_all (x := []) (a := a) (p := 10 :: b) (l := a ++ 10 :: b) rfl (.inr ⟨b, rfl⟩) (.inr h92) _ 0 [] ta (Nat.zero_le _) (by omega) ha
  obtain ⟨ub, h3, h4⟩ := em_all (x := a ++ [10]) (a := b) (p := []) (l := a ++ 10 :: b) (by simp) (.inl rfl) (.inl rfl) _ 0 [] tb (Nat.zero_le _) (by omega) hb
  rw [List.nil_append] at h1 h3
  refine ⟨ua, ub, h1, h3, ?_⟩
  have hx0 : ([] : Bs).length = 0 := rfl
  have hx1 : (a ++ [10]).length = a.length + 1 := by simp
  rw [hx0] at h2
  rw [hx1] at h4
  rcases h2 (a.length + 1 + b.length) [] (by rw [List.length_cons]; omega) with h | ⟨m, hm, h⟩
  · exact .inl h
  rw [Nat.zero_add, Nat.zero_add, List.nil_append, mvT0] at h
  obtain ⟨m, rfl⟩ : ∃ m', m = m' + 1 := ⟨m - 1, by rw [List.length_cons] at hm; omega⟩
  have hd : (a ++ 10 :: b).drop a.length = 10 :: b := by rw [List.drop_left]
  have hg : (a ++ 10 :: b).getD a.length 0 = 10 := by
    obtain ⟨r, hr⟩ := getD_at' (l := a ++ 10 :: b) (j := a.length) (by rw [hn]; omega)
    rw [hd] at hr
    injection hr with h5 h6
    exact h5.symm
  have hs : sg (10 :: b) = 1 := by
    unfold sg
    simp
  rw [h]
  rw [allL, if_neg (by rw [hn]; omega), hg, if_neg (by decide), if_neg (by intro h; exact absurd h.1 (by decide)), if_neg (by decide)]
  by_cases hO : ua.length = 400
  · rw [if_pos hO]; exact .inl ⟨_, rfl⟩
  · rw [if_neg hO, hd, hs, if_pos (by decide)]
    have hmid : mid (a ++ 10 :: b) a.length (a.length + 1) = [10] := by
      unfold mid
      rw [hd, Nat.add_sub_cancel_left]; rfl
    rw [hmid]
    rcases h4 m (ua ++ [⟨2, [10], a.length⟩]) (by rw [List.length_cons] at hm; simp; omega) with h5 | ⟨m', hm', h5⟩
    · rw [Nat.add_zero] at h5; exact .inl h5
    · right
      rw [Nat.add_zero] at h5
      rw [h5, ← hn, allL_fin, hn, List.append_assoc, List.append_assoc]
      rfl
theorem parseA_ok {a : Bs} {x : List Nd} (h : parseA a = (x, 0, 0)) (h0 : 0 < x.length) : ∃ ta, allA a = .ok ta ∧ parseT ta = (x, 0, 0) := by
  unfold parseA at h
  cases hA : allA a with
  | ok ts => rw [hA] at h; exact ⟨ts, rfl, h⟩
  | err k e =>
    rw [hA] at h
    injection h with h1 h2
    rw [← h1] at h0
    simp at h0
theorem lines_all {a b : Bs} {x y : List Nd} (hx : parseA a = (x, 0, 0)) (hx0 : 0 < x.length) (hy : parseA b = (y, 0, 0)) (hy0 : 0 < y.length) (h92 : ∀ i, i + 1 = a.length → ¬ a.getD i 0 = 92) (hl : a.length + 1 + b.length ≤ 4096) :
    (∃ q, parseA (a ++ 10 :: b) = ([], q, 12)) ∨ ∃ z w, w.kind = 6 ∧ x.length ≤ z.length + 1 ∧ z.length ≤ x.length + y.length ∧ parseA (a ++ 10 :: b) = (z ++ [w], 0, 0) := by
  obtain ⟨ta, h1, h2⟩ := parseA_ok hx hx0
  obtain ⟨tb, h3, h4⟩ := parseA_ok hy hy0
  have ga := (allA_good h1).1
  have gb := (allA_good h3).1
  obtain ⟨ua, ub, h5, h6, h7⟩ := tokens_join h1 h3 h92 hl
  subst h5
  subst h6
  unfold parseA
  rcases h7 with ⟨q, h7⟩ | h7
  · rw [h7]; exact .inl ⟨q, rfl⟩
  · rw [h7]
    obtain ⟨z, w, e1, e2, e3, e4⟩ := parse_join (kk := a.length + 1) (ez := ⟨4, [], a.length + 1 + b.length⟩) (nl := ⟨2, [10], a.length⟩) ga gb h2 hx0 h4 hy0 ⟨rfl, rfl⟩ ⟨rfl, rfl⟩
    dsimp only
    rw [e4]
    by_cases h300 : 300 < z.length + 1
    · rw [if_pos h300]; exact .inl ⟨0, rfl⟩
    · rw [if_neg h300]; exact .inr ⟨z, w, e1, e2, e3, rfl⟩
end Go.Proofs.Ytoahgblgchmclaa
