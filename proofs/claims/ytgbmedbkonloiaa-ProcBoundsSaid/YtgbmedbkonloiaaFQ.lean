import Derived.Deep.RegionHeld3
import Derived.StillTail
/-! A region whose reads are taken first: behind operation i the world keeps 'O i'; a read that is taken first wants F, which every operation keeps but those of a chain that waits for the read. -/
namespace Go.Proofs.Ytgbmedbkonloiaa
open Go

section
variable {P : Program} {ops : Array Oper} {Q : Exit → Act → World → Prop} {md : Region.Mode} {O : Nat → World → Prop} {F : World → Prop}

/-- Any order; 'O i' holds behind operation i. -/
def anyU (P : Program) (md : Region.Mode) (ops : Array Oper) (Q : Exit → Act → World → Prop) (O : Nat → World → Prop) : Nat → Array Bool → Act → World → Prop
  | 0, listed, a, w => Region.ready md ops listed = [] ∧ Q .normal a w
  | fuel + 1, listed, a, w =>
    (Region.ready md ops listed = [] → Q .normal a w) ∧
    ∀ i ∈ Region.ready md ops listed, wpOp P ops Q i (fun a' w' => O i w' ∧ anyU P md ops Q O fuel (listed.setIfInBounds i true) a' w') a w

theorem any_of_U : ∀ (fuel : Nat) (listed : Array Bool) (a : Act) (w : World), anyU P md ops Q O fuel listed a w → wpAny P md ops Q fuel listed a w
  | 0, _, _, _, h => h
  | fuel + 1, _, _, _, h => ⟨h.1, fun i hi => wpOp_mono (fun a' w' h' => any_of_U fuel _ a' w' h'.2) (h.2 i hi)⟩

/-- each waits for the one ahead of it, and none has come up. -/
def chainB (md : Region.Mode) (ops : Array Oper) (listed : Array Bool) (i : Nat) : List Nat → Bool
  | [] => true
  | c :: r => Region.waitsFor md ops c i && (!listed.getD c true) && chainB md ops listed c r

theorem not_chain {j : Nat} {listed : Array Bool} (hj : j ∈ Region.ready md ops listed) : ∀ (cs : List Nat) (i : Nat), chainB md ops listed i cs = true → listed.getD i true = false → j ∉ cs
  | [], _, _, _ => by simp
  | c :: r, i, h, hi => by
    simp only [chainB, Bool.and_eq_true, Bool.not_eq_true'] at h
    obtain ⟨⟨h1, h2⟩, h3⟩ := h
    intro hm
    rcases List.mem_cons.1 hm with rfl | hm
    · obtain ⟨_, oj, hoj, hall⟩ := mem_ready.1 hj
      obtain ⟨o', ho', e, he, hb, hon⟩ := Region.waitsFor_spec h1
      obtain rfl : o' = oj := Option.some.inj (ho'.symm.trans hoj)
      have h4 := hall e he hb
      rw [hon, getD_both hi] at h4
      cases h4
    · exact not_chain hj r c h3 h2 hm

theorem chain_keep {j : Nat} {listed : Array Bool} : ∀ (cs : List Nat) (i : Nat), chainB md ops listed i cs = true → j ∉ cs → chainB md ops (listed.setIfInBounds j true) i cs = true
  | [], _, _, _ => rfl
  | c :: r, i, h, hj => by
    simp only [chainB, Bool.and_eq_true, Bool.not_eq_true'] at h ⊢
    obtain ⟨⟨h1, h2⟩, h3⟩ := h
    have hc : j ≠ c := fun e => hj (by rw [e]; simp)
    exact ⟨⟨h1, by rw [getD_set_ne true hc]; exact h2⟩, chain_keep r c h3 fun e => hj (by simp [e])⟩

theorem anyU_first {i : Nat} {oi : Oper} {v : Value} {cs L0 : List Nat} (hi : ops[i]? = some oi) (hsel : ∀ (j : Nat) (o : Oper) cs b, ops[j]? = some o → o.op ≠ .select cs b)
    (hO : ∀ j, j ∉ cs → j ∉ L0 → ∀ w, O j w → F w) (hOi : ∀ w, F w → O i w) (hQ : ∀ c a w, Q (.panic c) (a.put oi.dst v) w → Q (.panic c) a w) :
    ∀ (fuel : Nat) (listed : Array Bool) (a : Act) (w : World),
      (∀ j oj, ops[j]? = some oj → j ≠ i → listed.getD j true = false → (∀ e ∈ oj.after, Region.binds md e = true → e.on ≠ i) → oi.apart ops oj = true) →
      (∀ j ∈ L0, listed.getD j true = true) → chainB md ops listed i cs = true → i ∈ Region.ready md ops listed → YieldsIf P ops F oi v a → F w →
      anyU P md ops Q O fuel (listed.setIfInBounds i true) (a.put oi.dst v) w → anyU P md ops Q O (fuel + 1) listed a w := by
  intro fuel
  induction fuel with
  | zero =>
    intro listed a w _ _ _ hr hy hS H
    refine ⟨fun h => (by rw [h] at hr; cases hr), fun j hj => ?_⟩
    by_cases hji : j = i
    · subst hji; exact hy.wpOp hi hS ⟨hOi _ hS, H⟩
    · have := ready_mono hj hji
      rw [H.1] at this
      cases this
  | succ fuel ih =>
    intro listed a w hfree hL hc hr hy hS H
    refine ⟨fun h => (by rw [h] at hr; cases hr), fun j hj => ?_⟩
    by_cases hji : j = i
    · subst hji; exact hy.wpOp hi hS ⟨hOi _ hS, H⟩
    have hjc := not_chain hj cs i hc (mem_ready.1 hr).1
    have hjL : j ∉ L0 := fun hk => by have := hL j hk; rw [(mem_ready.1 hj).1] at this; cases this
    have h1 := H.2 j (ready_mono hj hji)
    obtain ⟨hjun, oj, hoj, hall⟩ := mem_ready.1 hj
    have hun := (mem_ready.1 hr).1
    have hnot : ∀ e ∈ oj.after, Region.binds md e = true → e.on ≠ i := fun e he hb heq => by
      have h1 := hall e he hb
      rw [heq, getD_both hun] at h1
      cases h1
    have h2 := wpOp_putIf hoj (hfree j oj hoj hji hjun hnot) (fun cs b => hsel i oi cs b hi) (fun cs b => hsel j oj cs b hoj) hQ hy h1
    refine wpOp_mono (fun a' w' h3 => ⟨h3.2.1, ih (listed.setIfInBounds j true) a' w' ?_ (fun k hk => by
      by_cases hjk : j = k
      · subst hjk; exact hjL.elim hk
      · rw [getD_set_ne true hjk]; exact hL k hk) (chain_keep cs i hc hjc) (ready_mono hr (Ne.symm hji)) h3.1 (hO j hjc hjL _ h3.2.1) ?_⟩) h2
    · intro k ok hk hki hun' hno
      refine hfree k ok hk hki ?_ hno
      by_cases hjk : j = k
      · subst hjk; exact hjun
      · rw [getD_set_ne true hjk] at hun'; exact hun'
    · rw [Array.setIfInBounds_comm _ _ hji]
      exact h3.2.2

/-- Take number i first. -/
theorem takeU (F : World → Prop) (i : Nat) (cs L0 : List Nat) {oi : Oper} {v : Value} {fuel : Nat} {listed : Array Bool} {a : Act} {w : World} (hO : ∀ j, j ∉ cs → j ∉ L0 → ∀ w, O j w → F w) (hOi : ∀ w, F w → O i w) (hi : ops[i]? = some oi)
    (hB : (Region.noSelect ops && Region.free md ops listed i && (Region.ready md ops listed).contains i && chainB md ops listed i cs && L0.all fun j => listed.getD j true) = true)
    (hQ : ∀ c a w, Q (.panic c) (a.put oi.dst v) w → Q (.panic c) a w) (hy : YieldsIf P ops F oi v a) (hS : F w)
    (h : anyU P md ops Q O fuel (listed.setIfInBounds i true) (a.put oi.dst v) w) : anyU P md ops Q O (fuel + 1) listed a w := by
  simp only [Bool.and_eq_true, List.all_eq_true] at hB
  obtain ⟨⟨⟨⟨hs, hf⟩, hr⟩, hw⟩, hL⟩ := hB
  exact anyU_first hi (Region.noSelect_spec hs) hO hOi hQ fuel listed a w (Region.free_spec hi hf) hL hw (by simpa using hr) hy hS h

/-- Each of 'rs' comes up next. -/
def EachU (P : Program) (md : Region.Mode) (ops : Array Oper) (Q : Exit → Act → World → Prop) (O : Nat → World → Prop) (fuel : Nat) (listed : Array Bool) (a : Act) (w : World) (rs : List Nat) : Prop :=
  ∀ i ∈ rs, wpOp P ops Q i (fun a' w' => O i w' ∧ anyU P md ops Q O fuel (listed.setIfInBounds i true) a' w') a w

theorem EachU.nil {fuel : Nat} {listed : Array Bool} {a : Act} {w : World} : EachU P md ops Q O fuel listed a w [] := fun _ h => by cases h

theorem EachU.cons {fuel : Nat} {listed : Array Bool} {a : Act} {w : World} {i : Nat} {o : Oper} {rs : List Nat} (ho : ops[i]? = some o)
    (h : ∀ K' : Act → World → Prop, Shut (∀ a w, O i w → (O i w → anyU P md ops Q O fuel (listed.setIfInBounds i true) a w) → K' a w) → if Region.wanted o (yielded ops a.tmps) = true then Oper.wp P o a w K' Q else K' (a.put o.dst undef) w)
    (hs : EachU P md ops Q O fuel listed a w rs) : EachU P md ops Q O fuel listed a w (i :: rs) := fun j hj => by
  rcases List.mem_cons.1 hj with rfl | hj
  · exact wpOp_step ho (fun K' hK => h K' (fun a w hS hW => hK a w ⟨hS, hW hS⟩))
  · exact hs j hj

theorem readyU (rs : List Nat) {fuel : Nat} {listed : Array Bool} {a : Act} {w : World} (hr : Region.ready md ops listed = rs) (hne : rs ≠ [])
    (h : EachU P md ops Q O fuel listed a w rs) : anyU P md ops Q O (fuel + 1) listed a w := ⟨fun h0 => absurd (hr ▸ h0) hne, hr ▸ h⟩

theorem doneU {listed : Array Bool} {a : Act} {w : World} (hr : Region.ready md ops listed = []) (h : Q .normal a w) :
    ∀ fuel, anyU P md ops Q O fuel listed a w
  | 0 => ⟨hr, h⟩
  | _ + 1 => ⟨fun _ => h, by rw [hr]; simp⟩

/-- The beginning. -/
theorem regionU (O : Nat → World → Prop) {id : Nat} {a : Act} {w : World} (hm : P.follows .mixedOrders = true)
    (h : anyU P .any ops Q O ops.size (Array.replicate ops.size false) a w.drew) : (Code.region id ops true).wp P Q a w :=
  wp_region_any hm (any_of_U _ _ _ _ h)
end
end Go.Proofs.Ytgbmedbkonloiaa
