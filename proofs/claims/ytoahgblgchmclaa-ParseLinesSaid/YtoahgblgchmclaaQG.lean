/- What parseA answers: nodes in order, or a place in the text. -/
import Derived.Test.YtoahgblgchmclaaLQ
import Derived.Test.YtoahgblgchmclaaPC
import Derived.Test.YtoahgblgchmclaaPD
import Derived.Test.YtoahgblgchmclaaQI
namespace Go.Proofs.Ytoahgblgchmclaa
set_option linter.unusedVariables false
set_option linter.unusedSimpArgs false
theorem parseA_cases (l : Bs) :
    (∃ k c, parseA l = ([], k, c) ∧ ¬ c = 0 ∧ k ≤ l.length) ∨
    (∃ ts ns bs, allA l = .ok ts ∧ parseT ts = (ns, 0, 0) ∧ parseA l = (ns, 0, 0) ∧ Snd ns bs ∧ ns.length ≤ 300 ∧ (0 < ns.length → bs.getD (ns.length - 1) 0 = 0)) := by
  unfold parseA
  cases hA : allA l with
  | err k c =>
    obtain ⟨h1, h2⟩ := allA_err hA
    exact .inl ⟨k, c, rfl, by omega, h1⟩
  | ok ts =>
    have hg := (allA_good hA).1
    have hs := parseT_snd hg
    dsimp only
    rcases hr : parseT ts with ⟨ns, k, c⟩
    rw [hr] at hs
    dsimp only at hs
    have hi := (script_st ⟨ts, [], 0, 0, 0⟩ _ ⟨hg, fun h => absurd rfl h, Nat.zero_le _⟩).1
    have hr0 := hr
    unfold parseT at hr
    dsimp only at hr
    split at hr
    · rename_i he
      cases hr
      exact .inl ⟨_, _, rfl, he, hi.at_le⟩
    · split at hr
      · cases hr
        exact .inl ⟨_, _, rfl, by decide, Nat.zero_le _⟩
      · cases hr
        obtain ⟨bs, h1, h2, h3⟩ := hs rfl
        exact .inr ⟨ts, _, bs, rfl, hr0, rfl, h1, h2, h3⟩
end Go.Proofs.Ytoahgblgchmclaa
