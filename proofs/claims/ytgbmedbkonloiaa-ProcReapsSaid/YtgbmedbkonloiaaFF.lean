/- Contracts of the program's know, add, New, mayFork. -/
import Derived.Test.YtgbmedbkonloiaaFE
import Derived.Deep.RegionLaw
import Derived.Deep.RegionHeld3
namespace Go.Proofs.Ytgbmedbkonloiaa
open Go.RowKit Go.Maps
set_option linter.unusedVariables false
set_option linter.unusedSimpArgs false
variable {W W' : World} {B T M : Nat} {nb : Int → Nat} {v : Value} {L : List Pr} {last : Int} {us : List Int} {S : Nat → Prop} {s : TB}
theorem info_int : ∃ i, Try.prog.info? 3 = some i ∧ i.zero = some (.int .i64 0) ∧ i.size = 1 ∧ i.bytes = 8 := by
  obtain ⟨i, hi⟩ : ∃ i, Try.prog.info? 3 = some i := by
    cases h : Try.prog.info? 3 with
    | none => have : (Try.prog.info? 3).isSome = true := by kernel_rfl
              rw [h] at this; cases this
    | some i => exact ⟨i, rfl⟩
  have h2 : (Try.prog.info? 3).map (fun i => (i.zero, i.size, i.bytes)) = some (some (.int .i64 0), 1, 8) := by kernel_rfl
  rw [hi] at h2
  simp only [Option.map_some, Option.some.injEq, Prod.mk.injEq] at h2
  exact ⟨i, hi, h2.1, h2.2.1, h2.2.2⟩
theorem int_new (w : World) (u : Value) : ∀ j x, [u][j]? = some x → (w.alloc (.cells #[u] 3)).cell? ((⟨w.heap.size, 0, none⟩ : Addr).add j) = some x := by
  intro j x hj
  rw [Addr.add_lit, Nat.zero_add, cell_of_row _ w.heap.size j _ _ (0, 0) (heap_alloc_new w _)]
  match j, hj with
  | 0, hj => exact hj
theorem at_new {v : Value} {w : World} {g n cap k : Nat} (h : v.ownBlock = some g ∨ g = k) (hk : w.heap.size ≤ k) : (Value.slice (some ⟨g, 0, none⟩) n cap).ownBlock = v.ownBlock ∨ ∃ k, (Value.slice (some ⟨g, 0, none⟩) n cap).ownBlock = some k ∧ w.heap.size ≤ k := by
  rcases h with h | h
  · exact .inl h.symm
  · exact .inr ⟨g, rfl, by omega⟩
theorem ints_more {B : Nat} (us : List Int) (u : Int) {v' : Value} (h : W.ownsRow B 3 1 v' (us.length + 1) (intC us ++ [.int .i64 u])) : W.ownsRow B 3 1 v' (us ++ [u]).length (intC (us ++ [u])) := by
  unfold intC at *
  rw [List.map_append, List.length_append]
  exact h
theorem fin_new {R R' : Nat → Prop} {w1 w4 : World} {o : Obj} (k2 : Fr R (w1.drew.alloc o) w4) (k3 : ∀ k, R' k → R k ∨ (w1.drew.alloc o).heap.size ≤ k) : Step R R' w1 w4 := by
  refine ⟨(((Fr.refl _ w1).drew).alloc o).trans k2, fun k hk => (k3 k hk).imp id fun h => ?_⟩
  rw [World.size_alloc] at h
  have h2 : w1.heap.size + 1 ≤ k := h
  omega
def knowU (us : List Int) (p : Pr) : List Int := if p.reserve = true then us else learnU us p.user
set_option maxRecDepth 100000 in
set_option maxHeartbeats 2000000 in
theorem know_any {x : Int} {p : Pr} (h : PR W B T M nb v L last us) (hp : atP L x = some p) (h8 : us.length ≤ 8) :
    Calls Try.prog 34 #[.pointer (some ⟨T, 0, none⟩), .pointer (some ⟨nb x, 0, none⟩)] W fun r w' => r = .returned (.tuple #[]) ∧ ∃ v', PR w' B T M nb v' L last (knowU us p) ∧ Step (Bp T M nb v L) (Bp T M nb v' L) W w' := by
  have H := Lib.hid h
  obtain ⟨-, -, k2, -, -, -, k6⟩ := h.cells hp
  cases hr : p.reserve
  · have HK := Lib.hid (isknown_any p.user h h8)
    rw [hr] at k6
    cases hk : knownP us p.user
    · rw [hk] at HK
      have HR := Lib.hid (show knowU us p = us ++ [p.user] by unfold knowU learnU; rw [hr, hk]; rfl)
      have hD := h.fr (S := fun _ => False) ((Fr.refl _ W).drew) (fun _ _ => id)
      obtain ⟨-, -, c2⟩ := h.cell
      obtain ⟨-, -, d2⟩ := hD.cell
      have f2 := hD.frozen 2
      have k2' : W.drew.cell? ⟨nb x, 2, none⟩ = some (.int .i64 p.user) := k2
      have hA := hD.fr (S := fun _ => False) ((Fr.refl _ W.drew).alloc (.cells #[.int .i64 p.user] 3)) (fun _ _ => id)
      have HA := Lib.hid hA
      have hTlt := h.ltT
      have hBW : B ≤ W.heap.size := Nat.le_trans h.base.1 (Nat.le_of_lt h.ltT)
      have hnT := h.nT hp
      have hnlt := heap_lt (h.node x p hp)
      obtain ⟨i0, hi, hz0, hz1, hz2⟩ := info_int
      obtain ⟨ao, cap, hv, -⟩ := own_form h.us
      subst hv
      clear h hA hD hr hk
      generalize hu : p.user = u at *
      clear hu
      generalize hb : nb x = b at *
      clear hb
      go_enter Try.func34, Try.ntmps34
      go_wp2_with (go_at_call 42; refine HK.out.mono ?_; rintro e w' ⟨rfl, rfl⟩)
      go_region_law (first
        | (refine step_append_lies _ (by rfl) _ _ 41 (by rfl) B 3 i0 _ 1 8 Try.underlying41 hi hz0 hz1 hz2 (by rfl) (by decide) _ us.length (intC us) (by rfl) HA.out.us
             ⟨W.heap.size, 0, none⟩ 1 1 [.int .i64 u] (by rfl) (by rfl) (int_new W.drew _) (by intro x hx; simp at hx; subst hx; rfl) (by decide) (by unfold maxLen; omega) (by omega) (by simp; omega) (W.heap.size + 1) (by simp) ?_
           intro g cap2 w3 hown hgrow hat hlt
           have fD := (Fr.grown hgrow).block T HA.out.ltT (fun hk => HA.out.vT hk rfl)
           have g2 := (World.cell?_of_block (a := ⟨T, 2, none⟩) fD).trans HA.out.cell.2.2
           have e2 := (World.frozen?_of_block (a := ⟨T, 2, none⟩) fD).trans (HA.out.frozen 2)
           have HK2 := Lib.hid (HA.out.sUs hgrow (ints_more us u hown) (at_new hat (by simp)))
           clear hown hgrow hat hlt fD))
      all_goals
        have ST := Lib.hid (fin_new HK2.out.2.1 HK2.out.2.2)
        have KD := Lib.hid HK2.out.1
        clear HK2 g2 e2 c2 d2 f2 HA
        refine bodyPost_end (results_none rfl _ _ _) rfl ?_
        rw [HR.out]
        exact ⟨rfl, _, KD.out, ST.out⟩
    · rw [hk] at HK
      have HR := Lib.hid (show knowU us p = us by unfold knowU learnU; rw [hr, hk]; rfl)
      clear h hr hk hp
      generalize hb : nb x = b at *
      go_enter Try.func34, Try.ntmps34
      go_wp2_with (go_at_call 42; refine HK.out.mono ?_; rintro e w' ⟨rfl, rfl⟩)
      refine bodyPost_end (results_none rfl _ _ _) rfl ?_
      rw [HR.out]
      exact ⟨rfl, v, H.out, Step.refl _ _⟩
  · have HR := Lib.hid (show knowU us p = us by unfold knowU; rw [hr]; rfl)
    rw [hr] at k6
    clear h hr hp
    generalize hb : nb x = b at *
    go_enter Try.func34, Try.ntmps34
    go_wp2
    refine bodyPost_end (results_none rfl _ _ _) rfl ?_
    rw [HR.out]
    exact ⟨rfl, v, H.out, Step.refl _ _⟩
end Go.Proofs.Ytgbmedbkonloiaa
