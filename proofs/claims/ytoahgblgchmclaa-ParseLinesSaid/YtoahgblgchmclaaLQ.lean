/- Plain facts: where tokens stand, where errors are. -/
import Derived.Test.YtoahgblgchmclaaLI
namespace Go.Proofs.Ytoahgblgchmclaa
set_option linter.unusedVariables false
set_option linter.unusedSimpArgs false
/-- what stands between two tokens. -/
inductive Gap (l : Bs) : Nat → Nat → Prop where
  | nil (i : Nat) : Gap l i i
  | blank {i j : Nat} (hi : i < l.length) (hb : l.getD i 0 = 32 ∨ l.getD i 0 = 9) (h : Gap l (i + 1) j) : Gap l i j
  | nl {i j : Nat} (hi : i < l.length) (hb : isNl l i) (h : Gap l (i + 2) j) : Gap l i j
  | cm {i j : Nat} (hi : i < l.length) (hb : l.getD i 0 = 35) (h : Gap l (cmt l i) j) : Gap l i j
theorem Gap.trans {l : Bs} {i j k : Nat} (h : Gap l i j) (h2 : Gap l j k) : Gap l i k := by
  induction h with
  | nil i => exact h2
  | blank hi hb _ ih => exact .blank hi hb (ih h2)
  | nl hi hb _ ih => exact .nl hi hb (ih h2)
  | cm hi hb _ ih => exact .cm hi hb (ih h2)
theorem cmt_ge (l : Bs) (i : Nat) : i ≤ cmt l i := Nat.le_add_right _ _
theorem Gap.le {l : Bs} {i j : Nat} (h : Gap l i j) : i ≤ j := by
  induction h with
  | nil i => exact Nat.le_refl _
  | blank _ _ _ ih => omega
  | nl _ _ _ ih => omega
  | cm _ _ _ ih => exact Nat.le_trans (cmt_ge _ _) ih
def Chain (l : Bs) : Nat → List Tk → Prop
  | _, [] => False
  | e, [t] => t.kind = 4 ∧ t.text = [] ∧ t.at_ = l.length ∧ Gap l e l.length
  | e, t :: r => ¬ t.kind = 4 ∧ Gap l e t.at_ ∧ t.at_ + t.text.length ≤ l.length ∧ mid l t.at_ (t.at_ + t.text.length) = t.text ∧ Chain l (t.at_ + t.text.length) r
theorem chain_cons {l : Bs} {e : Nat} {t : Tk} {r : List Tk} (hk : ¬ t.kind = 4) (hg : Gap l e t.at_) (hl : t.at_ + t.text.length ≤ l.length) (hm : mid l t.at_ (t.at_ + t.text.length) = t.text) (hr : Chain l (t.at_ + t.text.length) r) : Chain l e (t :: r) := by
  cases r with
  | nil => exact hr.elim
  | cons u r => exact ⟨hk, hg, hl, hm, hr⟩
theorem mid_len {l : Bs} {i j : Nat} (hij : i ≤ j) (hj : j ≤ l.length) : (mid l i j).length = j - i := by
  unfold mid
  rw [List.length_take, List.length_drop]; omega
theorem wkind_ne (l : Bs) (i j : Nat) : ¬ wkind l i j = 4 := by
  unfold wkind; split <;> decide
theorem allL_chain (l : Bs) : ∀ (n i : Nat) (out ts : List Tk) (e : Nat), Gap l e i → i ≤ l.length → l.length - i ≤ n → allL l n i out = .ok ts → ∃ rest, ts = out ++ rest ∧ Chain l e rest := by
  intro n
  induction n with
  | zero =>
    intro i out ts e hg hi hn h
    rw [allL] at h
    injection h with h
    obtain rfl : i = l.length := by omega
    exact ⟨_, h.symm, rfl, rfl, rfl, hg⟩
  | succ n ih =>
    intro i out ts e hg hi hn h
    rw [allL] at h
    split at h
    · injection h with h
      obtain rfl : i = l.length := by omega
      exact ⟨_, h.symm, rfl, rfl, rfl, hg⟩
    rename_i hlt
    have hlt : i < l.length := by omega
    split at h
    · rename_i hb
      exact ih (i + 1) out ts e (hg.trans (.blank hlt hb (.nil _))) hlt (by omega) h
    rename_i hnb
    split at h
    · rename_i hb
      have hi2 : i + 1 < l.length := by
        refine Nat.lt_of_not_le fun hn' => ?_
        have := hb.2
        rw [List.drop_eq_nil_of_le (by omega)] at this
        simp at this
      exact ih (i + 2) out ts e (hg.trans (.nl hlt hb (.nil _))) hi2 (by omega) h
    rename_i hnn
    split at h
    · rename_i hb
      have h1 : i < cmt l i := by
        obtain ⟨r, hr⟩ := getD_at' hlt
        unfold cmt
        rw [hr, List.takeWhile_cons, hb]
        simp
      have h2 : cmt l i ≤ l.length := by
        unfold cmt
        have := (List.takeWhile_prefix (l := l.drop i) (fun c => c != 10)).length_le
        rw [List.length_drop] at this
        omega
      exact ih (cmt l i) out ts e (hg.trans (.cm hlt hb (.nil _))) h2 (by omega) h
    rename_i hn35
    have hbeg : Beg l i := ⟨hnb, hnn, hn35⟩
    split at h
    · cases h
    split at h
    · rename_i h0
      have hle := sg_len (l.drop i)
      rw [List.length_drop] at hle
      obtain ⟨rest, hr, hc⟩ := ih _ _ ts (i + sg (l.drop i)) (.nil _) (by omega) (by omega) h
      rw [List.append_assoc] at hr
      refine ⟨_, hr, ?_⟩
      have hml : (mid l i (i + sg (l.drop i))).length = sg (l.drop i) := by rw [mid_len (by omega) (by omega)]; omega
      exact chain_cons (by show ¬ (2 : Int) = 4; decide) hg (by show i + (mid l i _).length ≤ _; rw [hml]; omega) (by show mid l i (i + (mid l i _).length) = mid l i _; rw [hml]) (by show Chain l (i + (mid l i _).length) _; rw [hml]; exact hc)
    · rename_i h0
      split at h
      · rename_i j hj
        have hjl := tkR_lt (l := l) (i := i) (j := j) hlt hbeg (by rw [tkR, if_neg h0]; exact hj)
        obtain ⟨rest, hr, hc⟩ := ih _ _ ts j (.nil _) (by omega) (by omega) h
        rw [List.append_assoc] at hr
        refine ⟨_, hr, ?_⟩
        have hml : (mid l i j).length = j - i := mid_len (by omega) (by omega)
        have hij : i + (mid l i j).length = j := by omega
        exact chain_cons (wkind_ne _ _ _) hg (by show i + (mid l i _).length ≤ _; omega) (by show mid l i (i + (mid l i j).length) = mid l i j; rw [hij]) (by show Chain l (i + (mid l i j).length) _; rw [hij]; exact hc)
      · cases h
      · cases h
theorem kd_lt {q : Bool} {l : Bs} {i : Nat} {x : Kd} (h : kd q (l.drop i) = some x) : i < l.length := by
  refine Nat.lt_of_not_le fun hn => ?_
  rw [List.drop_eq_nil_of_le hn] at h
  cases h
theorem nestL_deep (P : Bool → Kd → Nat → R) (e : UInt8) (q : Bool) (l : Bs) (hP : ∀ q x i k, i < l.length → P q x i = .deep k → k ≤ l.length) :
    ∀ (n i o k : Nat), nestL P e q l n i o = .deep k → k ≤ l.length := by
  intro n
  induction n with
  | zero => intro i o k h; rw [nestL] at h; cases h
  | succ n ih =>
    intro i o k h
    rw [nestL] at h
    split at h
    · cases h
    · rename_i hi
      split at h
      · rename_i x hx
        split at h
        · exact ih _ _ _ h
        · exact hP _ _ _ _ (by omega) h
      · split at h
        · cases h
        · split at h
          · exact ih _ _ _ h
          · split at h
            · exact ih _ _ _ h
            · exact ih _ _ _ h
theorem lift_deep {i k : Nat} {x : Option Nat} : ¬ lift i x = .deep k := by
  cases x <;> exact fun h => by cases h
theorem partL_deep (l : Bs) : ∀ (d : Nat) (q : Bool) (x : Kd) (i k : Nat), i < l.length → partL l d q x i = .deep k → k ≤ l.length := by
  intro d
  induction d with
  | zero => intro q x i k hi h; rw [partL] at h; injection h with h; omega
  | succ d ih =>
    intro q x i k hi h
    cases x <;> simp only [partL] at h
    · split at h <;> cases h
    · exact absurd h lift_deep
    · exact nestL_deep _ _ _ _ ih _ _ _ _ h
    · exact absurd h lift_deep
    · exact nestL_deep _ _ _ _ ih _ _ _ _ h
    · exact nestL_deep _ _ _ _ ih _ _ _ _ h
    · exact absurd h lift_deep
theorem wordL_deep (l : Bs) : ∀ (n i k : Nat), wordL l n i = .deep k → k ≤ l.length := by
  intro n
  induction n with
  | zero => intro i k h; rw [wordL] at h; cases h
  | succ n ih =>
    intro i k h
    rw [wordL] at h
    split at h
    · cases h
    · rename_i hi
      split at h
      · cases h
      · split at h
        · exact ih _ _ h
        · split at h
          · exact ih _ _ h
          · exact partL_deep l _ _ _ _ _ (by omega) h
theorem allL_err (l : Bs) : ∀ (n i : Nat) (out : List Tk) (k : Nat) (c : Int), allL l n i out = .err k c → k ≤ l.length ∧ (c = 12 ∨ c = 17 ∨ c = 23) := by
  intro n
  induction n with
  | zero => intro i out k c h; rw [allL] at h; cases h
  | succ n ih =>
    intro i out k c h
    rw [allL] at h
    split at h
    · cases h
    rename_i hlt
    split at h
    · exact ih _ _ _ _ h
    split at h
    · exact ih _ _ _ _ h
    split at h
    · exact ih _ _ _ _ h
    split at h
    · injection h with h1 h2; exact ⟨by omega, .inl h2.symm⟩
    split at h
    · exact ih _ _ _ _ h
    · split at h
      · exact ih _ _ _ _ h
      · injection h with h1 h2; exact ⟨by omega, .inr (.inr h2.symm)⟩
      · rename_i z hz
        injection h with h1 h2
        have := wordL_deep l _ _ _ hz
        exact ⟨by omega, .inr (.inl h2.symm)⟩
theorem allA_err {l : Bs} {k : Nat} {c : Int} (h : allA l = .err k c) : k ≤ l.length ∧ (c = 10 ∨ c = 12 ∨ c = 17 ∨ c = 23) := by
  unfold allA at h
  split at h
  · injection h with h1 h2; exact ⟨by omega, .inl h2.symm⟩
  · have := allL_err l _ _ _ _ _ h
    exact ⟨this.1, .inr this.2⟩
theorem allA_chain {l : Bs} {ts : List Tk} (h : allA l = .ok ts) : Chain l 0 ts ∧ l.length ≤ 4096 := by
  unfold allA at h
  split at h
  · cases h
  · obtain ⟨rest, hr, hc⟩ := allL_chain l _ 0 [] ts 0 (.nil _) (Nat.zero_le _) (by omega) h
    rw [List.nil_append] at hr
    subst hr
    exact ⟨hc, by omega⟩
theorem chain_ne {l : Bs} {e : Nat} {ts : List Tk} (h : Chain l e ts) : 0 < ts.length := by
  cases ts with
  | nil => exact h.elim
  | cons t r => simp
theorem chain_head {l : Bs} {e : Nat} {t : Tk} {r : List Tk} (h : Chain l e (t :: r)) :
    Gap l e t.at_ ∧ t.at_ + t.text.length ≤ l.length ∧ mid l t.at_ (t.at_ + t.text.length) = t.text ∧ (r = [] → t.kind = 4 ∧ t.text = [] ∧ t.at_ = l.length) ∧ (¬ r = [] → ¬ t.kind = 4 ∧ Chain l (t.at_ + t.text.length) r) := by
  cases r with
  | nil =>
    obtain ⟨h1, h2, h3, h4⟩ := h
    refine ⟨by rw [h3]; exact h4, by rw [h2, h3]; simp, by rw [h2, mid]; simp, fun _ => ⟨h1, h2, h3⟩, fun h => absurd rfl h⟩
  | cons u r =>
    obtain ⟨h1, h2, h3, h4, h5⟩ := h
    exact ⟨h2, h3, h4, fun h => (by cases h), fun _ => ⟨h1, h5⟩⟩
end Go.Proofs.Ytoahgblgchmclaa
