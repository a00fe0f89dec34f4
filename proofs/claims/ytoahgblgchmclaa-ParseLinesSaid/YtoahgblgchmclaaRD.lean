/- Two scripts with a line feed between: their tokens. -/
import Derived.Test.YtoahgblgchmclaaRC
import Derived.Test.YtoahgblgchmclaaPC
namespace Go.Proofs.Ytoahgblgchmclaa
set_option linter.unusedVariables false
set_option linter.unusedSimpArgs false
set_option linter.unusedSectionVars false
theorem mvT_mk (k : Nat) (a : Int) (b : Bs) (c : Nat) : mvT k ⟨a, b, c⟩ = ⟨a, b, k + c⟩ := by
  show (⟨a, b, c + k⟩ : Tk) = _
  rw [Nat.add_comm]
/-- what may stand behind a text that is read alone. -/
def Beh (p : Bs) : Prop := p = [] ∨ ∃ r, p = 10 :: r
theorem kd_app (q : Bool) (c : UInt8) (b p : Bs) (hp : Beh p) : kd q (c :: b ++ p) = kd q (c :: b) := by
  cases b with
  | nil =>
    rcases hp with rfl | ⟨r, rfl⟩
    · rfl
    · show kd q (c :: 10 :: r) = _
      unfold kd
      simp
  | cons d b =>
    cases b with
    | nil =>
      rcases hp with rfl | ⟨r, rfl⟩
      · rfl
      · show kd q (c :: d :: 10 :: r) = _
        unfold kd
        simp
    | cons e b => rfl
theorem sg_app (c : UInt8) (b p : Bs) (hp : Beh p) : sg (c :: b ++ p) = sg (c :: b) := by
  cases b with
  | nil =>
    rcases hp with rfl | ⟨r, rfl⟩
    · rfl
    · show sg (c :: 10 :: r) = _
      unfold sg
      simp
  | cons d b => rfl
theorem toQ_app (e : UInt8) : ∀ (b p : Bs) (n : Nat), toQ e b = some n → toQ e (b ++ p) = some n := by
  intro b
  induction b with
  | nil => intro p n h; cases h
  | cons c b ih =>
    intro p n h
    rw [List.cons_append]
    rw [toQ] at h ⊢
    split at h
    · rename_i hc
      rw [if_pos hc]; exact h
    · rename_i hc
      rw [if_neg hc]
      cases hq : toQ e b with
      | none => rw [hq] at h; cases h
      | some m => rw [hq] at h; rw [ih p m hq]; exact h
theorem grv_app : ∀ (k : Nat) (b p : Bs) (n : Nat), b.length ≤ k → grv b = some n → grv (b ++ p) = some n := by
  intro k
  induction k with
  | zero => intro b p n hk h; obtain rfl := List.length_eq_zero_iff.1 (Nat.le_zero.1 hk); cases h
  | succ k ih =>
    intro b p n hk h
    match b, hk, h with
    | [c], hk, h =>
      rw [grv] at h
      split at h
      · rename_i hc
        subst hc
        cases p with
        | nil => rw [List.append_nil, grv, if_pos rfl]; exact h
        | cons d p => show grv (96 :: d :: p) = _; rw [grv, if_pos rfl]; exact h
      · cases h
    | c :: d :: b, hk, h =>
      rw [List.cons_append, List.cons_append]
      rw [grv] at h ⊢
      simp only [List.length_cons] at hk
      split at h
      · rename_i hc; rw [if_pos hc]; exact h
      · rename_i hc
        rw [if_neg hc]
        split at h
        · rename_i hc2
          rw [if_pos hc2]
          cases hq : grv b with
          | none => rw [hq] at h; cases h
          | some m => rw [hq] at h; rw [ih b p m (by omega) hq]; exact h
        · rename_i hc2
          rw [if_neg hc2]
          cases hq : grv (d :: b) with
          | none => rw [hq] at h; cases h
          | some m =>
            rw [hq] at h
            have := ih (d :: b) p m (by simp; omega) hq
            rw [List.cons_append] at this
            rw [this]; exact h
theorem ari_app : ∀ (b p : Bs) (o n : Nat), ari o b = some n → ari o (b ++ p) = some n := by
  intro b
  induction b with
  | nil => intro p o n h; rw [ari] at h; cases h
  | cons c b ih =>
    intro p o n h
    cases b with
    | nil =>
      rw [ari, ari, ari, ari] at h
      simp at h
    | cons d b =>
      rw [List.cons_append]
      rw [ari] at h ⊢
      split at h
      · rename_i hc
        rw [if_pos hc]
        cases hq : ari (o + 1) (d :: b) with
        | none => rw [hq] at h; cases h
        | some m => rw [hq] at h; rw [ih p _ m hq]; exact h
      · rename_i hc
        rw [if_neg hc]
        split at h
        · rename_i hc2
          rw [if_pos hc2]
          cases hq : ari (o - 1) (d :: b) with
          | none => rw [hq] at h; cases h
          | some m => rw [hq] at h; rw [ih p _ m hq]; exact h
        · rename_i hc2
          rw [if_neg hc2]
          split at h
          · rename_i hc3; rw [if_pos (show c = 41 ∧ (d :: b ++ p).head? = some 41 from hc3)]; exact h
          · rename_i hc3
            rw [if_neg (show ¬ (c = 41 ∧ (d :: b ++ p).head? = some 41) from hc3)]
            cases hq : ari o (d :: b) with
            | none => rw [hq] at h; cases h
            | some m => rw [hq] at h; rw [ih p _ m hq]; exact h
theorem takeW_app (b p : Bs) (hp : Beh p) : (b ++ p).takeWhile (fun c => c != 10) = b.takeWhile (fun c => c != 10) := by
  induction b with
  | nil => rcases hp with rfl | ⟨r, rfl⟩ <;> simp
  | cons c b ih =>
    rw [List.cons_append, List.takeWhile_cons, List.takeWhile_cons, ih]
section
variable {x a p l : Bs} (hl : l = x ++ (a ++ p)) (hp : Beh p)
include hl hp
omit hp in
theorem em_drop {i : Nat} (hi : i ≤ a.length) : l.drop (x.length + i) = a.drop i ++ p := by
  rw [hl, List.drop_append]
  rw [List.drop_eq_nil_of_le (by omega), List.nil_append, Nat.add_sub_cancel_left, List.drop_append_of_le_length hi]
omit hp in
theorem em_len : l.length = x.length + a.length + p.length := by rw [hl, List.length_append, List.length_append]; omega
omit hp in
theorem em_get {i : Nat} (hi : i < a.length) : l.getD (x.length + i) 0 = a.getD i 0 := by
  have h := em_drop hl (i := i) (by omega)
  obtain ⟨r, hr⟩ := getD_at' hi
  have hll := em_len hl
  obtain ⟨r2, hr2⟩ := getD_at' (l := l) (j := x.length + i) (by omega)
  rw [hr, hr2] at h
  injection h
theorem em_kd (q : Bool) {i : Nat} (hi : i < a.length) : kd q (l.drop (x.length + i)) = kd q (a.drop i) := by
  obtain ⟨r, hr⟩ := getD_at' hi
  rw [em_drop hl (by omega), hr]
  exact kd_app q _ _ _ hp
theorem em_nest (P P' : Bool → Kd → Nat → R) (hP : ∀ q k i j, i < a.length → P q k i = .ok j → P' q k (x.length + i) = .ok (x.length + j)) (e : UInt8) (q : Bool) :
    ∀ (n n' i o j : Nat), n ≤ n' → nestL P e q a n i o = .ok j → nestL P' e q l n' (x.length + i) o = .ok (x.length + j) := by
  intro n
  induction n with
  | zero => intro n' i o j _ h; rw [nestL] at h; cases h
  | succ n ih =>
    intro n' i o j hn h
    obtain ⟨n', rfl⟩ : ∃ m, n' = m + 1 := ⟨n' - 1, by omega⟩
    have hll := em_len hl
    rw [nestL] at h ⊢
    split at h
    · cases h
    · rename_i hi
      have hi : i < a.length := by omega
      rw [if_neg (by omega), em_kd hl hp q hi, em_get hl hi]
      split at h
      · rename_i k hk
        split at h
        · rename_i m hm
          rw [hP _ _ _ _ hi hm]
          exact ih _ _ _ _ (by omega) h
        · rename_i hno
          exact absurd h (hno _)
      · split at h
        · rename_i hc
          injection h with h
          rw [if_pos hc, ← h]
          rfl
        · rename_i hc
          rw [if_neg hc]
          split at h
          · rename_i hc2
            rw [if_pos hc2]
            exact ih _ (i + 1) _ _ (by omega) h
          · rename_i hc2
            rw [if_neg hc2]
            split at h
            · rename_i hc3
              rw [if_pos hc3]
              exact ih _ (i + 1) _ _ (by omega) h
            · rename_i hc3
              rw [if_neg hc3]
              exact ih _ (i + 1) _ _ (by omega) h
omit hp in
theorem em_lift {i j : Nat} {f : Bs → Option Nat} (hf : ∀ b n, f b = some n → f (b ++ p) = some n) (hnil : f [] = none) (h : lift i (f (a.drop i)) = .ok j) : lift (x.length + i) (f (l.drop (x.length + i))) = .ok (x.length + j) := by
  by_cases hi : i ≤ a.length
  · rw [em_drop hl hi]
    cases hq : f (a.drop i) with
    | none => rw [hq] at h; cases h
    | some n =>
      rw [hq] at h
      have hj : i + n = j := by rw [lift] at h; injection h
      rw [hf _ _ hq, lift, ← hj, Nat.add_assoc]
  · rw [List.drop_eq_nil_of_le (by omega), hnil] at h
    cases h
theorem em_part : ∀ (d : Nat) (q : Bool) (k : Kd) (i j : Nat), i < a.length → partL a d q k i = .ok j → partL l d q k (x.length + i) = .ok (x.length + j) := by
  intro d
  induction d with
  | zero => intro q k i j _ h; rw [partL] at h; cases h
  | succ d ih =>
    intro q k i j hi h
    have hll := em_len hl
    cases k <;> simp only [partL] at h ⊢
    · split at h
      · rename_i hc
        injection h with h
        rw [if_pos (by omega), ← h]
        rfl
      · cases h
    · exact em_lift hl (fun b n hh => toQ_app 39 b p n hh) rfl h
    · exact em_nest hl hp _ _ ih _ _ _ _ (i + 1) _ _ (by omega) h
    · exact em_lift hl (fun b n hh => ari_app b p 0 n hh) (by rw [ari]) h
    · exact em_nest hl hp _ _ ih _ _ _ _ (i + 2) _ _ (by omega) h
    · exact em_nest hl hp _ _ ih _ _ _ _ (i + 2) _ _ (by omega) h
    · exact em_lift hl (fun b n hh => grv_app b.length b p n (Nat.le_refl _) hh) rfl h
theorem em_word : ∀ (n n' i j : Nat), i ≤ a.length → a.length - i ≤ n → a.length - i + 1 ≤ n' → wordL a n i = .ok j → wordL l n' (x.length + i) = .ok (x.length + j) := by
  have hll := em_len hl
  have hend : ∀ m, wordL l (m + 1) (x.length + a.length) = .ok (x.length + a.length) := by
    intro m
    rw [wordL]
    rcases hp with hp | ⟨r, hp⟩
    · rw [if_pos (by rw [hll, hp]; simp)]
    · rw [if_neg (by rw [hll, hp, List.length_cons]; omega)]
      have hg : l.getD (x.length + a.length) 0 = 10 := by
        have h1 := em_drop hl (i := a.length) (Nat.le_refl _)
        rw [List.drop_length, List.nil_append, hp] at h1
        obtain ⟨r2, hr2⟩ := getD_at' (l := l) (j := x.length + a.length) (by rw [hll, hp, List.length_cons]; omega)
        rw [hr2] at h1
        injection h1
      rw [hg, if_pos (by decide)]
  intro n
  induction n with
  | zero =>
    intro n' i j hi hn hn' h
    rw [wordL] at h
    injection h with h
    obtain rfl : i = a.length := by omega
    obtain ⟨m, rfl⟩ : ∃ m, n' = m + 1 := ⟨n' - 1, by omega⟩
    rw [hend, h]
  | succ n ih =>
    intro n' i j hi hn hn' h
    obtain ⟨m, rfl⟩ : ∃ m, n' = m + 1 := ⟨n' - 1, by omega⟩
    rw [wordL] at h
    split at h
    · injection h with h
      obtain rfl : i = a.length := by omega
      rw [hend, h]
    · rename_i hlt
      have hlt : i < a.length := by omega
      rw [wordL, if_neg (by omega), em_get hl hlt, em_kd hl hp false hlt]
      split at h
      · rename_i hs
        injection h with h
        rw [if_pos hs, h]
      · rename_i hs
        rw [if_neg hs]
        split at h
        · exact ih _ (i + 1) _ hlt (by omega) (by omega) h
        · rename_i k hk
          split at h
          · rename_i m' hm'
            have hb := partL_le _ _ _ _ _ _ hm'
            rw [em_part hl hp _ _ _ _ _ hlt hm']
            exact ih _ _ _ hb.2 (by omega) (by omega) h
          · rename_i hno
            exact absurd h (hno _)
theorem em_kind {i j : Nat} (hi : i < a.length) (hj : j ≤ a.length) : wkind l (x.length + i) (x.length + j) = wkind a i j := by
  have e1 : ∀ c : UInt8, ¬ c = 10 → ((l.drop (x.length + j)).head? = some c) = ((a.drop j).head? = some c) := by
    intro c hc
    rw [em_drop hl hj]
    cases hd : a.drop j with
    | nil =>
      rcases hp with hp | ⟨r, hp⟩
      · rw [hp]; rfl
      · rw [hp]; simp; exact fun e => hc e.symm
    | cons d r => rfl
  unfold wkind
  have e2 : (x.length + j = x.length + i + 1) = (j = i + 1) := by apply propext; omega
  simp only [e1 60 (by decide), e1 62 (by decide), em_get hl hi, e2]
omit hp in
theorem em_mid {i j : Nat} (hi : i ≤ j) (hj : j ≤ a.length) : mid l (x.length + i) (x.length + j) = mid a i j := by
  unfold mid
  rw [em_drop hl (by omega), show x.length + j - (x.length + i) = j - i by omega, List.take_append_of_le_length (by rw [List.length_drop]; omega)]
theorem em_all (h92 : p = [] ∨ ∀ i, i + 1 = a.length → ¬ a.getD i 0 = 92) : ∀ (n i : Nat) (out ts : List Tk), i ≤ a.length → a.length - i ≤ n → allL a n i out = .ok ts →
    ∃ rest, ts = out ++ rest ++ [⟨4, [], a.length⟩] ∧ ∀ m out', a.length - i + p.length ≤ m → (∃ q, allL l m (x.length + i) out' = .err q 12) ∨ ∃ m', p.length ≤ m' ∧ allL l m (x.length + i) out' = allL l m' (x.length + a.length) (out' ++ rest.map (mvT x.length)) := by
  have hll := em_len hl
  have hend : ∀ (out : List Tk), ∃ rest, out ++ [⟨4, [], a.length⟩] = out ++ rest ++ [(⟨4, [], a.length⟩ : Tk)] ∧ ∀ m out', a.length - a.length + p.length ≤ m → (∃ q, allL l m (x.length + a.length) out' = .err q 12) ∨ ∃ m', p.length ≤ m' ∧ allL l m (x.length + a.length) out' = allL l m' (x.length + a.length) (out' ++ rest.map (mvT x.length)) :=
    fun out => ⟨[], by simp, fun m out' hm => .inr ⟨m, by omega, by simp⟩⟩
  intro n
  induction n with
  | zero =>
    intro i out ts hi hn h
    rw [allL] at h
    injection h with h
    obtain rfl : i = a.length := by omega
    rw [← h]
    exact hend out
  | succ n ih =>
    intro i out ts hi hn h
    rw [allL] at h
    split at h
    · injection h with h
      obtain rfl : i = a.length := by omega
      rw [← h]
      exact hend out
    rename_i hlt
    have hlt : i < a.length := by omega
    have hg := em_get hl hlt
    have hd := em_drop hl (i := i) (by omega)
    have hd1 := em_drop hl (i := i + 1) hlt
    obtain ⟨r0, hr0⟩ := getD_at' hlt
    have hll2 : ¬ l.length ≤ x.length + i := by omega
    split at h
    · rename_i hb
      obtain ⟨rest, h1, h2⟩ := ih (i + 1) out ts hlt (by omega) h
      refine ⟨rest, h1, fun m out' hm => ?_⟩
      obtain ⟨m, rfl⟩ : ∃ m', m = m' + 1 := ⟨m - 1, by omega⟩
      rw [allL, if_neg hll2, hg, if_pos hb]
      exact h2 m out' (by omega)
    rename_i hnb
    split at h
    · rename_i hb
      have hi2 : i + 1 < a.length := by
        refine Nat.lt_of_not_le fun hn' => ?_
        have := hb.2
        rw [List.drop_eq_nil_of_le (by omega)] at this
        simp at this
      obtain ⟨rest, h1, h2⟩ := ih (i + 2) out ts hi2 (by omega) h
      refine ⟨rest, h1, fun m out' hm => ?_⟩
      obtain ⟨m, rfl⟩ : ∃ m', m = m' + 1 := ⟨m - 1, by omega⟩
      have hb2 : a.getD i 0 = 92 ∧ (l.drop (x.length + i + 1)).head? = some 10 := by
        refine ⟨hb.1, ?_⟩
        rw [Nat.add_assoc, hd1]
        obtain ⟨r1, hr1⟩ := getD_at' hi2
        have := hb.2
        rw [hr1] at this ⊢
        exact this
      rw [allL, if_neg hll2, hg, if_neg hnb, if_pos hb2]
      exact h2 m out' (by omega)
    rename_i hnn
    have hnn2 : ¬ (a.getD i 0 = 92 ∧ (l.drop (x.length + i + 1)).head? = some 10) := by
      rintro ⟨h1, h2⟩
      rw [Nat.add_assoc, hd1] at h2
      by_cases hi2 : i + 1 < a.length
      · obtain ⟨r1, hr1⟩ := getD_at' hi2
        refine hnn ⟨h1, ?_⟩
        rw [hr1] at h2 ⊢
        exact h2
      · rcases h92 with h92 | h92
        · rw [List.drop_eq_nil_of_le (by omega), h92] at h2
          simp at h2
        · exact h92 i (by omega) h1
    split at h
    · rename_i hb
      have h1 : i < cmt a i := by
        unfold cmt
        rw [hr0, List.takeWhile_cons, hb]
        simp
      have h2 : cmt a i ≤ a.length := by
        unfold cmt
        have := (List.takeWhile_prefix (l := a.drop i) (fun c => c != 10)).length_le
        rw [List.length_drop] at this
        omega
      obtain ⟨rest, h3, h4⟩ := ih (cmt a i) out ts h2 (by omega) h
      refine ⟨rest, h3, fun m out' hm => ?_⟩
      obtain ⟨m, rfl⟩ : ∃ m', m = m' + 1 := ⟨m - 1, by omega⟩
      have hcm : cmt l (x.length + i) = x.length + cmt a i := by
        unfold cmt
        rw [hd, takeW_app _ _ hp]
        omega
      rw [allL, if_neg hll2, hg, if_neg hnb, if_neg hnn2, if_pos hb, hcm]
      exact h4 m out' (by omega)
    rename_i hn35
    have hbeg : Beg a i := ⟨hnb, hnn, hn35⟩
    split at h
    · cases h
    have hsg : sg (l.drop (x.length + i)) = sg (a.drop i) := by rw [hd, hr0]; exact sg_app _ _ _ hp
    split at h
    · rename_i h0
      have hle := sg_len (a.drop i)
      rw [List.length_drop] at hle
      obtain ⟨rest, h3, h4⟩ := ih _ _ ts (by omega) (by omega) h
      refine ⟨⟨2, mid a i (i + sg (a.drop i)), i⟩ :: rest, by rw [h3]; simp, fun m out' hm => ?_⟩
      obtain ⟨m, rfl⟩ : ∃ m', m = m' + 1 := ⟨m - 1, by omega⟩
      rw [allL, if_neg hll2, hg, if_neg hnb, if_neg hnn2, if_neg hn35, hsg, if_pos h0]
      by_cases hO : out'.length = 400
      · rw [if_pos hO]; exact .inl ⟨_, rfl⟩
      · rw [if_neg hO, Nat.add_assoc, em_mid hl (by omega) (by omega)]
        have := h4 m (out' ++ [⟨2, mid a i (i + sg (a.drop i)), x.length + i⟩]) (by omega)
        rw [List.append_assoc] at this
        rw [List.map_cons, mvT_mk]
        exact this
    · rename_i h0
      split at h
      · rename_i j hj
        have hjl := tkR_lt (l := a) (i := i) (j := j) hlt hbeg (by rw [tkR, if_neg h0]; exact hj)
        obtain ⟨rest, h3, h4⟩ := ih _ _ ts hjl.2 (by omega) h
        refine ⟨⟨wkind a i j, mid a i j, i⟩ :: rest, by rw [h3]; simp, fun m out' hm => ?_⟩
        obtain ⟨m, rfl⟩ : ∃ m', m = m' + 1 := ⟨m - 1, by omega⟩
        have hw : wordL l l.length (x.length + i) = .ok (x.length + j) ∨ (p = [] ∧ x = []) := by
          by_cases hxp : p = [] ∧ x = []
          · exact .inr hxp
          · refine .inl (em_word hl hp _ _ _ _ (by omega) (by omega) ?_ hj)
            have h1 : 0 < p.length ∨ 0 < x.length := by
              rcases Nat.eq_zero_or_pos p.length with hz | hz
              · right
                refine Nat.pos_of_ne_zero fun hz2 => hxp ⟨List.length_eq_zero_iff.1 hz, List.length_eq_zero_iff.1 hz2⟩
              · exact .inl hz
            omega
        have hw2 : wordL l l.length (x.length + i) = .ok (x.length + j) := by
          rcases hw with hw | ⟨h1, h2⟩
          · exact hw
          · have e : l = a := by rw [hl, h1, h2]; simp
            rw [e, h2]
            show wordL a a.length (0 + i) = .ok (0 + j)
            rw [Nat.zero_add, Nat.zero_add]
            exact hj
        rw [allL, if_neg hll2, hg, if_neg hnb, if_neg hnn2, if_neg hn35, hsg, if_neg h0, hw2]
        by_cases hO : out'.length = 400
        · rw [if_pos hO]; exact .inl ⟨_, rfl⟩
        · rw [if_neg hO]
          dsimp only
          rw [em_kind hl hp hlt hjl.2, em_mid hl (by omega) hjl.2]
          have := h4 m (out' ++ [⟨wkind a i j, mid a i j, x.length + i⟩]) (by omega)
          rw [List.append_assoc] at this
          rw [List.map_cons, mvT_mk]
          exact this
      · cases h
      · cases h
end
end Go.Proofs.Ytoahgblgchmclaa
