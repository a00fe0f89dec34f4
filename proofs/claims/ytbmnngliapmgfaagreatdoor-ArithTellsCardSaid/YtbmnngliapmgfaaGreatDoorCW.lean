/- The parser's fuel: what it gives with some fuel it gives with enough. -/
/- The document's reader: all of it, from the deepest level upwards. -/
import Derived.Test.YtbmnngliapmgfaaGreatDoorCP
import Derived.Test.YtbmnngliapmgfaaGreatDoorCU
namespace Go.Proofs.YtbmnngliapmgfaaGreatDoor
open Go.RowKit
set_option linter.unusedVariables false
set_option linter.unusedSimpArgs false
def kdK : Kd → Prop
  | .lev k => k ≤ 9
  | .more k _ => k ≤ 9
  | _ => True
theorem pP_fuel {f f' : Nat} {K : Kd} {o : Nat} {ts : List Bs} {n : Nd} {r : List Bs} (h : pP f K o ts = some (n, r)) (hf : f ≤ f') : pP f' K o ts = some (n, r) := by
  have := pP_ext [] (fun t h => by cases h) f f' K o o ts n r h hf (Nat.le_refl _)
  rwa [List.append_nil, List.append_nil] at this
theorem opK_K {k : Nat} (h : k ≤ 9) : kdK (opK k) ∧ ∀ m, enough (opK k) m + 1 ≤ enough (.lev k) m := by
  unfold opK
  split
  · exact ⟨trivial, fun m => by simp [enough]; omega⟩
  · exact ⟨by show k + 1 ≤ 9; omega, fun m => by simp [enough]; omega⟩
theorem tail_le (r : List Bs) {x : Bs} (h : r.head? = some x) : r.tail.length + 1 = r.length := by
  cases r with
  | nil => cases h
  | cons a q => simp
theorem pP_enough : ∀ (f : Nat) (K : Kd) (o : Nat) (ts : List Bs) (n : Nd) (r : List Bs), pP f K o ts = some (n, r) → kdK K → pP (enough K ts.length) K o ts = some (n, r) := by
  intro f
  induction f with
  | zero => intro K o ts n r h; cases h
  | succ f ih =>
    intro K o ts n r h hK
    cases K with
    | asg =>
      rw [show enough .asg ts.length = (20 * ts.length + 14) + 1 from rfl]
      by_cases hts : ∃ a b q, ts = a :: b :: q ∧ (isN a && isAsg b) = true
      · obtain ⟨a, b, q, rfl, hab⟩ := hts
        rw [pP_asg2] at h ⊢
        split at h
        · cases h
        · rename_i h0
          rw [if_neg h0, if_pos hab]
          try rw [if_pos hab] at h
          cases hx : pP f .asg (o + 1) q with
          | none => rw [hx] at h; cases h
          | some x =>
            rw [hx] at h; cases h
            rw [pP_fuel (ih .asg (o + 1) q x.1 x.2 hx trivial) (by simp [enough]; omega)]; rfl
      · have hc : ∀ a b r, ts = a :: b :: r → (isN a && isAsg b) = false := by
          intro a b r e
          cases hq : isN a && isAsg b with
          | false => rfl
          | true => exact absurd ⟨a, b, r, e, hq⟩ hts
        rw [pP_asgc hc] at h ⊢
        split at h
        · cases h
        · rename_i h0
          rw [if_neg h0]
          exact pP_fuel (ih .cho (o + 1) ts n r h trivial) (Nat.le_refl _)
    | cho =>
      rw [show enough .cho ts.length = (20 * ts.length + 13) + 1 from rfl]
      rw [pP_cho] at h ⊢
      split at h
      · cases h
      · rename_i h0
        rw [if_neg h0]
        split at h
        · cases h
        · rename_i c q hq
          have hql := pP_le _ _ _ _ _ _ hq
          rw [pP_fuel (ih (.lev 0) (o + 1) ts c q hq (Nat.zero_le _)) (show enough (.lev 0) ts.length ≤ 20 * ts.length + 13 from by simp [enough])]
          dsimp only
          split at h
          · rename_i hh
            rw [if_pos hh]
            have ht := tail_le _ hh
            split at h
            · cases h
            · rename_i y r2 hy
              have hrl := pP_le _ _ _ _ _ _ hy
              rw [pP_fuel (ih .asg (o + 1) q.tail y r2 hy trivial) (show enough .asg q.tail.length ≤ 20 * ts.length + 13 from by simp only [enough]; omega)]
              dsimp only
              split at h
              · rename_i hh2
                have ht2 := tail_le _ hh2
                rw [if_pos hh2]
                cases hx : pP f .cho (o + 1) r2.tail with
                | none => rw [hx] at h; cases h
                | some x =>
                  rw [hx] at h; cases h
                  rw [pP_fuel (ih .cho (o + 1) r2.tail x.1 x.2 hx trivial) (show enough .cho r2.tail.length ≤ 20 * ts.length + 13 from by simp only [enough]; omega)]; rfl
              · cases h
          · rename_i hh
            rw [if_neg hh]
            exact h
    | lev k =>
      have hk : k ≤ 9 := hK
      rw [show enough (.lev k) ts.length = (20 * ts.length + 12 - k) + 1 from by simp only [enough]; omega]
      rw [pP_lev] at h ⊢
      split at h
      · cases h
      · rename_i l q hq
        have hql := pP_le _ _ _ _ _ _ hq
        have h1 := (opK_K hk).2 ts.length
        rw [show enough (.lev k) ts.length = 20 * ts.length + 13 - k from rfl] at h1
        rw [pP_fuel (ih (opK k) o ts l q hq (opK_K hk).1) (show enough (opK k) ts.length ≤ 20 * ts.length + 12 - k from by omega)]
        exact pP_fuel (ih (.more k l) o q n r h hk) (show enough (.more k l) q.length ≤ 20 * ts.length + 12 - k from by simp only [enough]; omega)
    | more k l =>
      have hk : k ≤ 9 := hK
      match ts, h with
      | [], h => exact h
      | t :: q, h =>
        rw [show enough (.more k l) (t :: q).length = (20 * q.length + 21) + 1 from by simp only [enough, List.length_cons]; omega]
        rw [pP_more] at h ⊢
        split at h
        · rename_i hh
          rw [if_pos hh]
          split at h
          · cases h
          · rename_i x r2 hx
            have hrl := pP_le _ _ _ _ _ _ hx
            have h1 := (opK_K hk).2 q.length
            rw [show enough (.lev k) q.length = 20 * q.length + 13 - k from rfl] at h1
            rw [pP_fuel (ih (opK k) o q x r2 hx (opK_K hk).1) (show enough (opK k) q.length ≤ 20 * q.length + 21 from by omega)]
            exact pP_fuel (ih (.more k (.bin t l x)) o r2 n r h hk) (show enough (.more k (.bin t l x)) r2.length ≤ 20 * q.length + 21 from by simp only [enough]; omega)
        · rename_i hh
          rw [if_neg hh]
          exact h
    | un =>
      match ts, h with
      | [], h => rw [pP_un0] at h; cases h
      | t :: q, h =>
        rw [show enough .un (t :: q).length = (20 * q.length + 22) + 1 from by simp only [enough, List.length_cons]; omega]
        rw [pP_un] at h ⊢
        split at h
        · cases h
        · rename_i h0
          rw [if_neg h0]
          split at h
          · rename_i hh
            rw [if_pos hh]
            cases hx : pP f .un (o + 1) q with
            | none => rw [hx] at h; cases h
            | some x =>
              rw [hx] at h; cases h
              rw [pP_fuel (ih .un (o + 1) q x.1 x.2 hx trivial) (show enough .un q.length ≤ 20 * q.length + 22 from by simp only [enough]; omega)]; rfl
          · rename_i hh
            rw [if_neg hh]
            split at h
            · rename_i h4
              rw [if_pos h4]
              split at h
              · cases h
              · rename_i x r2 hx
                rw [pP_fuel (ih .asg (o + 1) q x r2 hx trivial) (show enough .asg q.length ≤ 20 * q.length + 22 from by simp only [enough]; omega)]
                exact h
            · rename_i h4
              rw [if_neg h4]
              exact h
/-- what the parser without fuel gives is what it gives with the parser's own. -/
theorem PR.own {ts : List Bs} {R : Option (Nd × List Bs)} (h : PR .asg 0 ts R) : pP (20 * ts.length + 15) .asg 0 ts = R := by
  obtain ⟨F, h⟩ := h
  cases R with
  | some x => exact pP_enough F .asg 0 ts x.1 x.2 (h F (Nat.le_refl _)) trivial
  | none =>
    cases hq : pP (20 * ts.length + 15) .asg 0 ts with
    | none => rfl
    | some x =>
      have h1 := pP_fuel (f' := F + (20 * ts.length + 15)) hq (by omega)
      rw [h _ (by omega)] at h1
      cases h1
end Go.Proofs.YtbmnngliapmgfaaGreatDoor
namespace Go.Proofs.YtbmnngliapmgfaaGreatDoor
open Go.RowKit
set_option linter.unusedVariables false
set_option linter.unusedSimpArgs false
theorem row_zero {B p : Nat} {s : ByteArray} {gv : Value} {g : List (Bs × Bs)} {d : Nat} (hs : s.size ≤ 256) (hd : d ≤ 25) (hone : CC4 39 B p s gv g d .un) : CCr B p s gv g d 0 (.lev 0) := by
  have step : ∀ n : Nat, n ≤ 9 → CCr B p s gv g d ((n : Int) + 1) (opK n) → CCr B p s gv g d (n : Int) (.lev n) := fun n hn h => rrow_of hs hd hn (fun z hz => by subst hz; exact h) _ rfl
  have h9 : CCr B p s gv g d 9 (.lev 9) := step 9 (by decide) (rrow_ten hone)
  have h8 : CCr B p s gv g d 8 (.lev 8) := step 8 (by decide) h9
  have h7 : CCr B p s gv g d 7 (.lev 7) := step 7 (by decide) h8
  have h6 : CCr B p s gv g d 6 (.lev 6) := step 6 (by decide) h7
  have h5 : CCr B p s gv g d 5 (.lev 5) := step 5 (by decide) h6
  have h4 : CCr B p s gv g d 4 (.lev 4) := step 4 (by decide) h5
  have h3 : CCr B p s gv g d 3 (.lev 3) := step 3 (by decide) h4
  have h2 : CCr B p s gv g d 2 (.lev 2) := step 2 (by decide) h3
  have h1 : CCr B p s gv g d 1 (.lev 1) := step 1 (by decide) h2
  exact step 0 (by decide) h1
def QQ (B p : Nat) (s : ByteArray) (gv : Value) (g : List (Bs × Bs)) (d : Nat) : Prop :=
  CC4 9 B p s gv g d .asg ∧ CC4 19 B p s gv g d .cho ∧ CC4 39 B p s gv g d .un ∧ CCr B p s gv g d 0 (.lev 0)
theorem qq_end {B p : Nat} {s : ByteArray} {gv : Value} {g : List (Bs × Bs)} (hs : s.size ≤ 256) : QQ B p s gv g 25 := by
  have h1 : CC4 39 B p s gv g 25 .un := fun W k sv o err c h => (rone_off W p s k 25 gv sv false err c (by decide) (by decide) h.1).mono fun e w' h2 => off_post (.inr (.inr rfl)) rfl h h2
  exact ⟨fun W k sv o err c h => (rsets_off W p s k 25 gv sv false err c (by decide) (by decide) h.1).mono fun e w' h2 => off_post (.inl rfl) rfl h h2,
    fun W k sv o err c h => (rchoice_off W p s k 25 gv sv false err c (by decide) (by decide) h.1).mono fun e w' h2 => off_post (.inr (.inl rfl)) rfl h h2, h1, row_zero hs (by decide) h1⟩
theorem qq_all {B p : Nat} {s : ByteArray} {gv : Value} {g : List (Bs × Bs)} (hs : s.size ≤ 256) : ∀ j d : Nat, d + j = 25 → QQ B p s gv g d
  | 0, d, h => by
    obtain rfl : d = 25 := by omega
    exact qq_end hs
  | j + 1, d, h => by
    obtain ⟨h1, h2, h3, h4⟩ := qq_all hs j (d + 1) (by omega)
    have k3 := rone_of hs (by omega) h3 h1
    exact ⟨rsets_of hs (by omega) h1 h2, rchoice_of hs (by omega) h4 h1 h2, k3, row_zero hs (by omega) k3⟩
/-- SETS, AT THE TOP. -/
theorem rsets_top {B p : Nat} {s : ByteArray} {gv : Value} {g : List (Bs × Bs)} (hs : s.size ≤ 256) : CC4 9 B p s gv g 0 .asg := (qq_all hs 25 0 rfl).1
end Go.Proofs.YtbmnngliapmgfaaGreatDoor
