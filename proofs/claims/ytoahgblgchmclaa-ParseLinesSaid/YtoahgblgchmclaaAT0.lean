/- A region that draws its order, taken as far as it goes, the rest step by step; a way out by panic that hangs on what is deferred. -/
import Derived.OrdersHeld
import Derived.StillTail
import Derived.RegionTactic
import Derived.Deep.RegionHeld3
import Derived.Deep.CutRange
import Derived.Deep.DeepCutAuto
import Derived.Test.YtoahgblgchmclaaLB
namespace Go.Proofs.Ytoahgblgchmclaa
open Go Go.RowKit
set_option linter.unusedVariables false
section
variable {P : Program} {md : Region.Mode} {ops : Array Oper} {Q : Exit → Act → World → Prop} {S : Array Bool → World → Prop}
/-- whatever order is picked, S holds behind every operation, of what has come up. -/
def anyT (P : Program) (md : Region.Mode) (ops : Array Oper) (Q : Exit → Act → World → Prop) (S : Array Bool → World → Prop) : Nat → Array Bool → Act → World → Prop
  | 0, listed, a, w => Region.ready md ops listed = [] ∧ Q .normal a w
  | fuel + 1, listed, a, w => (Region.ready md ops listed = [] → Q .normal a w) ∧
    ∀ j ∈ Region.ready md ops listed, wpOp P ops Q j (fun a' w' => S (listed.setIfInBounds j true) w' ∧ anyT P md ops Q S fuel (listed.setIfInBounds j true) a' w') a w
theorem any_of_T : ∀ (fuel : Nat) (listed : Array Bool) (a : Act) (w : World), anyT P md ops Q S fuel listed a w → wpAny P md ops Q fuel listed a w
  | 0, _, _, _, h => h
  | fuel + 1, _, _, _, h => ⟨h.1, fun i hi => wpOp_mono (fun a' w' h' => any_of_T fuel _ a' w' h'.2) (h.2 i hi)⟩
/-- who has come up, those that it waits for have, too. -/
def Clos (md : Region.Mode) (ops : Array Oper) (l : Array Bool) : Prop :=
  ∀ (j : Nat) (oj : Oper), ops[j]? = some oj → l.getD j false = true → ∀ e ∈ oj.after, Region.binds md e = true → l.getD e.on false = true
theorem Clos.set {l : Array Bool} (h : Clos md ops l) {j : Nat} (hj : j ∈ Region.ready md ops l) : Clos md ops (l.setIfInBounds j true) := by
  intro k ok hk hl e he hb
  obtain ⟨_, oj, hoj, hall⟩ := mem_ready.1 hj
  by_cases hkj : k = j
  · subst hkj
    rw [hoj] at hk
    cases hk
    exact getD_set_true (hall e he hb)
  · rw [getD_set_ne false (fun e => hkj e.symm)] at hl
    exact getD_set_true (h k ok hk hl e he hb)
theorem Clos.not {l : Array Bool} (h : Clos md ops l) {j i : Nat} (hw : ((ops[j]?).any fun o => o.after.any fun e => Region.binds md e && e.on == i) = true) (hi : l.getD i true = false) : l.getD j false = false := by
  cases hl : l.getD j false
  · rfl
  · cases ho : ops[j]? with
    | none => rw [ho] at hw; cases hw
    | some o =>
      rw [ho] at hw
      obtain ⟨e, he, hb⟩ := Array.any_eq_true'.1 (show (o.after.any fun e => Region.binds md e && e.on == i) = true from hw)
      rw [Bool.and_eq_true, beq_iff_eq] at hb
      have := h j o ho hl e he hb.1
      rw [hb.2, getD_both hi] at this
      cases this
theorem anyT_first {i : Nat} {oi : Oper} {v : Value} {Si : World → Prop} (hi : ops[i]? = some oi) (hsel : ∀ (j : Nat) (o : Oper) cs b, ops[j]? = some o → o.op ≠ .select cs b)
    (hQ : ∀ c a w, Q (.panic c) (a.put oi.dst v) w → Q (.panic c) a w)
    (hSi : ∀ l w, Clos md ops l → l.getD i true = false → S l w → Si w) (hdep : ∀ l w, S (l.setIfInBounds i true) w ↔ S l w) :
    ∀ (fuel : Nat) (listed : Array Bool) (a : Act) (w : World),
      (∀ j oj, ops[j]? = some oj → j ≠ i → listed.getD j true = false → (∀ e ∈ oj.after, Region.binds md e = true → e.on ≠ i) → oi.apart ops oj = true) →
      i ∈ Region.ready md ops listed → Clos md ops listed → YieldsIf P ops Si oi v a → S listed w →
      anyT P md ops Q S fuel (listed.setIfInBounds i true) (a.put oi.dst v) w → anyT P md ops Q S (fuel + 1) listed a w := by
  intro fuel
  induction fuel with
  | zero =>
    intro listed a w _ hr hc hy hS H
    refine ⟨fun h => (by rw [h] at hr; cases hr), fun j hj => ?_⟩
    by_cases hji : j = i
    · subst hji
      exact hy.wpOp hi (hSi listed w hc (mem_ready.1 hr).1 hS) ⟨(hdep _ _).2 hS, H⟩
    · have := ready_mono hj hji
      rw [H.1] at this
      cases this
  | succ fuel ih =>
    intro listed a w hfree hr hc hy hS H
    refine ⟨fun h => (by rw [h] at hr; cases hr), fun j hj => ?_⟩
    by_cases hji : j = i
    · subst hji
      exact hy.wpOp hi (hSi listed w hc (mem_ready.1 hr).1 hS) ⟨(hdep _ _).2 hS, H⟩
    · have h1 := H.2 j (ready_mono hj hji)
      obtain ⟨hjun, oj, hoj, hall⟩ := mem_ready.1 hj
      have hun := (mem_ready.1 hr).1
      have hnot : ∀ e ∈ oj.after, Region.binds md e = true → e.on ≠ i := fun e he hb heq => by
        have h2 := hall e he hb
        rw [heq, getD_both hun] at h2
        cases h2
      have h2 := wpOp_putIf hoj (hfree j oj hoj hji hjun hnot) (fun cs b => hsel i oi cs b hi) (fun cs b => hsel j oj cs b hoj) hQ hy h1
      refine wpOp_mono (fun a' w' h3 => ?_) h2
      have hS3 : S (listed.setIfInBounds j true) w' := by
        have := h3.2.1
        rw [Array.setIfInBounds_comm _ _ (Ne.symm hji)] at this
        exact (hdep _ _).1 this
      refine ⟨hS3, ih (listed.setIfInBounds j true) a' w' (fun k ok hk hki hkun hno => ?_) (ready_mono hr (Ne.symm hji)) (hc.set hj) h3.1 hS3 ?_⟩
      · refine hfree k ok hk hki ?_ hno
        by_cases hjk : j = k
        · subst hjk; exact hjun
        · rw [getD_set_ne true hjk] at hkun; exact hkun
      · rw [Array.setIfInBounds_comm _ _ hji]
        exact h3.2.2
theorem anyT_take {i : Nat} {oi : Oper} {v : Value} (Si : World → Prop) {fuel : Nat} {listed : Array Bool} {a : Act} {w : World} (hi : ops[i]? = some oi)
    (hs : Region.noSelect ops = true) (hf : Region.free md ops listed i = true) (hr : (Region.ready md ops listed).contains i = true)
    (hQ : ∀ c a w, Q (.panic c) (a.put oi.dst v) w → Q (.panic c) a w)
    (hSi : ∀ l w, Clos md ops l → l.getD i true = false → S l w → Si w) (hdep : ∀ l w, S (l.setIfInBounds i true) w ↔ S l w) (hc : Clos md ops listed)
    (hy : YieldsIf P ops Si oi v a) (hS : S listed w)
    (h : Clos md ops (listed.setIfInBounds i true) → S (listed.setIfInBounds i true) w → anyT P md ops Q S fuel (listed.setIfInBounds i true) (a.put oi.dst v) w) : anyT P md ops Q S (fuel + 1) listed a w :=
  have hr' : i ∈ Region.ready md ops listed := by simpa using hr
  anyT_first hi (Region.noSelect_spec hs) hQ hSi hdep fuel listed a w (Region.free_spec hi hf) hr' hc hy hS (h (hc.set hr') ((hdep _ _).2 hS))
theorem anyT_step {k : Nat} {o : Oper} {fuel : Nat} {listed : Array Bool} {a : Act} {w : World} (hr : Region.ready md ops listed = [k]) (ho : ops[k]? = some o)
    (h : ∀ K : Act → World → Prop, (∀ a' w', S (listed.setIfInBounds k true) w' → anyT P md ops Q S fuel (listed.setIfInBounds k true) a' w' → K a' w') →
      if Region.wanted o (yielded ops a.tmps) = true then o.wp P a w K Q else K (a.put o.dst undef) w) : anyT P md ops Q S (fuel + 1) listed a w := by
  refine ⟨fun h0 => (by rw [hr] at h0; cases h0), fun j hj => ?_⟩
  rw [hr] at hj
  have hjk : j = k := by simpa using hj
  subst hjk
  exact wpOp_step ho (fun K' hK => h K' (fun a' w' hS hT => hK a' w' ⟨hS, hT⟩))
theorem anyT_done {listed : Array Bool} {a : Act} {w : World} (hr : Region.ready md ops listed = []) (h : Q .normal a w) : anyT P md ops Q S 0 listed a w := ⟨hr, h⟩
theorem Clos.start (n : Nat) : Clos md ops (Array.replicate n false) := fun j oj _ hl => by rw [getD_replicate_false] at hl; cases hl
end
/-- what holds until the last one has come up. -/
def Late (last : Nat) (C : World → Prop) (l : Array Bool) (w : World) : Prop := l.getD last false = false → C w
def lateB (md : Region.Mode) (ops : Array Oper) (last i : Nat) : Bool := match ops[last]? with
  | some o => o.after.any fun e => e.on == i && Region.binds md e
  | none => false
theorem late_no {md : Region.Mode} {ops : Array Oper} {l : Array Bool} {last i : Nat} (hc : Clos md ops l) (hl : l.getD i true = false) (hb : lateB md ops last i = true) : l.getD last false = false := by
  cases h : l.getD last false with
  | false => rfl
  | true =>
    exfalso
    unfold lateB at hb
    split at hb
    · rename_i o ho
      rw [Array.any_eq_true'] at hb
      obtain ⟨e, he, hh⟩ := hb
      rw [Bool.and_eq_true, beq_iff_eq] at hh
      have := hc last o ho h e he hh.2
      rw [hh.1] at this
      by_cases hi : i < l.size
      · simp [Array.getD, hi] at hl this
        rw [hl] at this; cases this
      · simp [Array.getD, hi] at this
    · cases hb
theorem late_dep {last i : Nat} {C : World → Prop} {l : Array Bool} {w : World} (hne : i ≠ last) : Late last C (l.setIfInBounds i true) w ↔ Late last C l w := by
  unfold Late
  have : (l.setIfInBounds i true).getD last false = l.getD last false := by
    simp only [Array.getD_eq_getD_getElem?]
    rw [Array.getElem?_setIfInBounds_ne hne]
  rw [this]
/-- the post, at a panic a word of its own. -/
def panQ (Q : Exit → Act → World → Prop) (D : List Deferred) (pan : List PanicEntry → World → Prop) : Exit → Act → World → Prop
  | .panic c, a, w => a.defers = D ∧ pan c w
  | e, a, w => Q e a w
theorem panQ.normal {Q : Exit → Act → World → Prop} {D : List Deferred} {pan : List PanicEntry → World → Prop} {a : Act} {w : World} (h : Q .normal a w) : panQ Q D pan .normal a w := h
theorem wp_region_pan {P : Program} {id : Nat} {ops : Array Oper} {b : Bool} {Q : Exit → Act → World → Prop} {a : Act} {w : World} (D : List Deferred) (pan : List PanicEntry → World → Prop)
    (h1 : ∀ c tm w, pan c w → Q (.panic c) { tmps := tm, defers := D } w) (h : (Code.region id ops b).wp P (panQ Q D pan) a w) : (Code.region id ops b).wp P Q a w := by
  refine Code.wp_mono (fun e a w hq => ?_) h
  cases e with
  | panic c =>
    obtain ⟨tm, de⟩ := a
    obtain ⟨rfl, hp⟩ := hq
    exact h1 c tm w hp
  | _ => exact hq
end Go.Proofs.Ytoahgblgchmclaa
