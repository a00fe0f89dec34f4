/- The parser reads other constants as it reads these. -/
import Derived.Test.YtncjelemjdkklaaDoorBI
namespace Go.Proofs.YtncjelemjdkklaaDoor
open Go.RowKit
set_option linter.unusedVariables false
set_option linter.unusedSimpArgs false
def nmap (m : Int → Int) : Nd → Nd
  | .num n => .num (m n)
  | .nam s => .nam s
  | .pre g r => .pre g (nmap m r)
  | .bin g l r => .bin g (nmap m l) (nmap m r)
  | .cho c y n => .cho (nmap m c) (nmap m y) (nmap m n)
  | .asg s g r => .asg s g (nmap m r)
def kmap (m : Int → Int) : Kd → Kd
  | .more k l => .more k (nmap m l)
  | K => K
structure Sub (σ : Bs → Bs) (m : Int → Int) : Prop where
  keep : ∀ t, isC t = false → σ t = t
  cst : ∀ t, isC t = true → isC (σ t) = true ∧ cstV (σ t) = m (cstV t)
section
variable {σ : Bs → Bs} {m : Int → Int} (h : Sub σ m)
include h
theorem Sub.isC (t : Bs) : isC (σ t) = isC t := by
  cases hc : Go.Proofs.YtncjelemjdkklaaDoor.isC t with
  | true => exact (h.cst t hc).1
  | false => rw [h.keep t hc]; exact hc
theorem Sub.mem (l : List Bs) (hl : (l.all fun t => !Go.Proofs.YtncjelemjdkklaaDoor.isC t) = true) (t : Bs) : l.contains (σ t) = l.contains t := by
  cases hc : Go.Proofs.YtncjelemjdkklaaDoor.isC t with
  | false => rw [h.keep t hc]
  | true =>
    have hn : ∀ u, Go.Proofs.YtncjelemjdkklaaDoor.isC u = true → l.contains u = false := by
      intro u hu
      cases hx : l.contains u with
      | false => rfl
      | true =>
        have := List.all_eq_true.1 hl u (by simpa using hx)
        rw [hu] at this
        cases this
    rw [hn t hc, hn _ (h.cst t hc).1]
theorem Sub.eq (u : Bs) (hu : Go.Proofs.YtncjelemjdkklaaDoor.isC u = false) (t : Bs) : σ t = u ↔ t = u := by
  cases hc : Go.Proofs.YtncjelemjdkklaaDoor.isC t with
  | false => rw [h.keep t hc]
  | true =>
    have := (h.cst t hc).1
    constructor
    · intro e; rw [e, hu] at this; cases this
    · intro e; rw [e, hu] at hc; cases hc
theorem Sub.isN (t : Bs) : isN (σ t) = isN t := by
  cases hc : Go.Proofs.YtncjelemjdkklaaDoor.isC t with
  | false => rw [h.keep t hc]
  | true =>
    have hn : ∀ u, Go.Proofs.YtncjelemjdkklaaDoor.isC u = true → Go.Proofs.YtncjelemjdkklaaDoor.isN u = false := by
      intro u hu
      cases u with
      | nil => rfl
      | cons c r =>
        have hd : isDg c = true := hu
        show isLt c = false
        unfold isDg at hd
        unfold isLt
        simp only [Bool.and_eq_true, decide_eq_true_eq] at hd
        simp only [Bool.or_eq_false_iff, Bool.and_eq_false_iff, decide_eq_false_iff_not]
        omega
    rw [hn t hc, hn _ (h.cst t hc).1]
theorem Sub.isAsg (t : Bs) : isAsg (σ t) = isAsg t := h.mem assignL (by decide) t
theorem Sub.lev (k : Nat) (t : Bs) : (lev k).contains (σ t) = (lev k).contains t := by
  refine h.mem _ ?_ t
  match k with
  | 0 | 1 | 2 | 3 | 4 | 5 | 6 | 7 | 8 | 9 => decide
  | k + 10 => rfl
theorem Sub.head (u : Bs) (hu : Go.Proofs.YtncjelemjdkklaaDoor.isC u = false) (r : List Bs) : (r.map σ).head? = some u ↔ r.head? = some u := by
  cases r with
  | nil => simp
  | cons t q =>
    rw [List.map_cons, List.head?_cons, List.head?_cons, Option.some_inj, Option.some_inj]
    exact h.eq u hu t
theorem pP_map : ∀ (f : Nat) (K : Kd) (o : Nat) (ts : List Bs) (n : Nd) (r : List Bs), pP f K o ts = some (n, r) → pP f (kmap m K) o (ts.map σ) = some (nmap m n, r.map σ) := by
  intro f
  induction f with
  | zero => intro K o ts n r hp; cases hp
  | succ f ih =>
    intro K o ts n r hp
    cases K with
    | asg =>
      show pP (f + 1) .asg o (ts.map σ) = _
      by_cases hts : ∃ a b q, ts = a :: b :: q ∧ (Go.Proofs.YtncjelemjdkklaaDoor.isN a && Go.Proofs.YtncjelemjdkklaaDoor.isAsg b) = true
      · obtain ⟨a, b, q, rfl, hab⟩ := hts
        have hab' : (Go.Proofs.YtncjelemjdkklaaDoor.isN (σ a) && Go.Proofs.YtncjelemjdkklaaDoor.isAsg (σ b)) = true := by rw [h.isN, h.isAsg]; exact hab
        rw [pP_asg2] at hp
        rw [List.map_cons, List.map_cons, pP_asg2]
        have ha : σ a = a := h.keep a (by
          cases hc : Go.Proofs.YtncjelemjdkklaaDoor.isC a with
          | false => rfl
          | true =>
            exfalso
            cases a with
            | nil => cases hc
            | cons c r =>
              have hd : isDg c = true := hc
              have hl : isLt c = true := by simp only [Bool.and_eq_true] at hab; exact hab.1
              unfold isDg at hd
              unfold isLt at hl
              simp only [Bool.and_eq_true, Bool.or_eq_true, decide_eq_true_eq] at hd hl
              omega)
        have hb : σ b = b := (h.eq b (by
          have hm : b ∈ assignL := by
            simp only [Bool.and_eq_true] at hab
            have := hab.2
            unfold Go.Proofs.YtncjelemjdkklaaDoor.isAsg at this
            simpa using this
          have hall : ∀ u ∈ assignL, Go.Proofs.YtncjelemjdkklaaDoor.isC u = false := by decide
          exact hall b hm) b).2 rfl
        by_cases h24 : 24 < o
        · rw [if_pos h24] at hp; cases hp
        · rw [if_neg h24, if_pos hab] at hp
          rw [if_neg h24, if_pos hab', ha, hb]
          cases hx : pP f .asg (o + 1) q with
          | none => rw [hx] at hp; cases hp
          | some x =>
            rw [hx] at hp; cases hp
            have := ih .asg (o + 1) q x.1 x.2 hx
            rw [show pP f .asg (o + 1) (q.map σ) = some (nmap m x.1, x.2.map σ) from this]; rfl
      · have hc : ∀ a b r, ts = a :: b :: r → (Go.Proofs.YtncjelemjdkklaaDoor.isN a && Go.Proofs.YtncjelemjdkklaaDoor.isAsg b) = false := by
          intro a b r e
          cases hq : Go.Proofs.YtncjelemjdkklaaDoor.isN a && Go.Proofs.YtncjelemjdkklaaDoor.isAsg b with
          | false => rfl
          | true => exact absurd ⟨a, b, r, e, hq⟩ hts
        rw [pP_asgc hc] at hp
        rw [pP_asgc (by
          intro a b r e
          match ts, e with
          | x :: y :: q, e =>
            rw [List.map_cons, List.map_cons] at e
            obtain ⟨e1, e⟩ := List.cons.inj e
            obtain ⟨e2, e⟩ := List.cons.inj e
            rw [← e1, ← e2, h.isN, h.isAsg]
            exact hc x y q rfl)]
        by_cases h24 : 24 < o
        · rw [if_pos h24] at hp; cases hp
        · rw [if_neg h24] at hp ⊢
          exact ih .cho (o + 1) ts n r hp
    | cho =>
      show pP (f + 1) .cho o (ts.map σ) = _
      rw [pP_cho] at hp ⊢
      by_cases h24 : 24 < o
      · rw [if_pos h24] at hp; cases hp
      · rw [if_neg h24] at hp ⊢
        split at hp
        · cases hp
        · rename_i c q hq
          rw [show pP f (.lev 0) (o + 1) (ts.map σ) = some (nmap m c, q.map σ) from ih (.lev 0) (o + 1) ts c q hq]
          dsimp only
          split at hp
          · rename_i hh
            rw [if_pos ((h.head [63] (by decide) q).2 hh), ← List.map_tail]
            split at hp
            · cases hp
            · rename_i y r2 hy
              rw [show pP f .asg (o + 1) (q.tail.map σ) = some (nmap m y, r2.map σ) from ih .asg (o + 1) q.tail y r2 hy]
              dsimp only
              split at hp
              · rename_i hh2
                rw [if_pos ((h.head [58] (by decide) r2).2 hh2), ← List.map_tail]
                cases hx : pP f .cho (o + 1) r2.tail with
                | none => rw [hx] at hp; cases hp
                | some x =>
                  rw [hx] at hp; cases hp
                  rw [show pP f .cho (o + 1) (r2.tail.map σ) = some (nmap m x.1, x.2.map σ) from ih .cho (o + 1) r2.tail x.1 x.2 hx]; rfl
              · cases hp
          · rename_i hh
            rw [if_neg (fun e => hh ((h.head [63] (by decide) q).1 e))]
            cases hp; rfl
    | lev k =>
      show pP (f + 1) (.lev k) o (ts.map σ) = _
      have hop : kmap m (opK k) = opK k := by unfold opK; split <;> rfl
      rw [pP_lev] at hp ⊢
      split at hp
      · cases hp
      · rename_i l q hq
        have := ih (opK k) o ts l q hq
        rw [hop] at this
        rw [this]
        exact ih (.more k l) o q n r hp
    | more k l =>
      show pP (f + 1) (.more k (nmap m l)) o (ts.map σ) = _
      have hop : kmap m (opK k) = opK k := by unfold opK; split <;> rfl
      match ts, hp with
      | [], hp => rw [pP_more0] at hp; cases hp; rfl
      | t :: q, hp =>
        rw [pP_more] at hp
        rw [List.map_cons, pP_more, h.lev]
        split at hp
        · rename_i hh
          rw [if_pos hh]
          have ht : σ t = t := h.keep t (by
            have hall : ∀ k, ((lev k).all fun u => !Go.Proofs.YtncjelemjdkklaaDoor.isC u) = true := by
              intro k
              match k with
              | 0 | 1 | 2 | 3 | 4 | 5 | 6 | 7 | 8 | 9 => decide
              | k + 10 => rfl
            have := List.all_eq_true.1 (hall k) t (by simpa using hh)
            simpa using this)
          split at hp
          · cases hp
          · rename_i x r2 hx
            have := ih (opK k) o q x r2 hx
            rw [hop] at this
            rw [this]
            dsimp only
            rw [ht]
            exact ih (.more k (.bin t l x)) o r2 n r hp
        · rename_i hh
          rw [if_neg hh]
          cases hp; rfl
    | un =>
      show pP (f + 1) .un o (ts.map σ) = _
      match ts, hp with
      | [], hp => rw [pP_un0] at hp; cases hp
      | t :: q, hp =>
        rw [pP_un] at hp
        rw [List.map_cons, pP_un, h.mem preL (by decide)]
        by_cases h24 : 24 < o
        · rw [if_pos h24] at hp; cases hp
        · rw [if_neg h24] at hp ⊢
          split at hp
          · rename_i hh
            rw [if_pos hh]
            have ht : σ t = t := h.keep t (by
              have hall : ∀ u ∈ preL, Go.Proofs.YtncjelemjdkklaaDoor.isC u = false := by decide
              exact hall t (by simpa using hh))
            cases hx : pP f .un (o + 1) q with
            | none => rw [hx] at hp; cases hp
            | some x =>
              rw [hx] at hp; cases hp
              rw [show pP f .un (o + 1) (q.map σ) = some (nmap m x.1, x.2.map σ) from ih .un (o + 1) q x.1 x.2 hx, ht]; rfl
          · rename_i hh
            rw [if_neg hh]
            split at hp
            · rename_i h4
              rw [if_pos ((h.eq [40] (by decide) t).2 h4)]
              split at hp
              · cases hp
              · rename_i x r2 hx
                rw [show pP f .asg (o + 1) (q.map σ) = some (nmap m x, r2.map σ) from ih .asg (o + 1) q x r2 hx]
                dsimp only
                split at hp
                · rename_i h5
                  rw [if_pos ((h.head [41] (by decide) r2).2 h5), ← List.map_tail]
                  cases hp; rfl
                · cases hp
            · rename_i h4
              rw [if_neg (fun e => h4 ((h.eq [40] (by decide) t).1 e)), h.isC, h.isN]
              split at hp
              · rename_i h5
                rw [if_pos h5, (h.cst t h5).2]; cases hp; rfl
              · rename_i h5
                rw [if_neg h5]
                split at hp
                · rename_i h6
                  rw [if_pos h6, h.keep t (by cases hc : Go.Proofs.YtncjelemjdkklaaDoor.isC t with
                    | false => rfl
                    | true => exact absurd hc h5)]; cases hp; rfl
                · cases hp
end
/-- a text of one constant. -/
theorem toks_word {w : Bs} (hc : isC w = true) (hn : cstN w = w.length) : toks w = some [w] := by
  have ht : trimB w = w := by
    cases w with
    | nil => cases hc
    | cons c r =>
      have hd : isDg c = true := hc
      unfold isDg at hd
      simp only [Bool.and_eq_true, decide_eq_true_eq] at hd
      unfold trimB
      rw [List.dropWhile_cons, if_neg]
      simp
      refine ⟨?_, ?_, ?_⟩ <;> (rintro rfl; revert hd; decide)
  have hne : w ≠ [] := by rintro rfl; cases hc
  rw [toks_step (by rw [ht]; exact hne), ht]
  have hk : tokN w = some w.length := by unfold tokN; rw [if_pos hc, hn]
  rw [hk]
  dsimp only
  rw [List.drop_length, List.take_length]
  rfl
theorem toks_sp (a b : Bs) (ta tb : List Bs) (ha : toks a = some ta) (hb : toks b = some tb) : toks (a ++ 32 :: b) = some (ta ++ tb) := by
  rw [toks_stop (.inl rfl) b a, ha, toks_blank, hb]; rfl
theorem toks_cl (a b : Bs) (ta tb : List Bs) (ha : toks a = some ta) (hb : toks (41 :: b) = some tb) : toks (a ++ 41 :: b) = some (ta ++ tb) := by
  rw [toks_stop (.inr rfl) b a, ha, hb]; rfl
theorem parsed_map {σ : Bs → Bs} {m : Int → Int} (h : Sub σ m) {s : Bs} {ts : List Bs} {n : Nd} (hl : s.length ≤ 256) (ht : toks s = some (ts.map σ)) (hne : ts ≠ []) (hp : pP (20 * ts.length + 15) .asg 0 ts = some (n, [])) : parsed s = some (nmap m n) := by
  unfold parsed
  rw [if_neg (by omega), ht]
  dsimp only
  rw [if_neg (by simpa using hne), List.length_map]
  have := pP_map h _ .asg 0 ts n [] hp
  rw [show pP (20 * ts.length + 15) .asg 0 (ts.map σ) = some (nmap m n, []) from this]
  rfl
end Go.Proofs.YtncjelemjdkklaaDoor
