/- Contracts of the program's live, Known, isKnown, Get, Leads. -/
import Derived.Test.YtgbmedbkonloiaaFC
import Derived.Test.YtgbmedbkonloiaaShelf
import Derived.Lib.SmallJoins
namespace Go.Proofs.Ytgbmedbkonloiaa
open Go.RowKit Go.Maps
set_option linter.unusedVariables false
set_option linter.unusedSimpArgs false
variable {W W' : World} {B T M : Nat} {nb : Int → Nat} {v : Value} {L : List Pr} {last : Int} {us : List Int} {S : Nat → Prop} {s : TB}
def liveV (L : List Pr) (nb : Int → Nat) (x : Int) : Value := match liveP L x with | some _ => .pointer (some ⟨nb x, 0, none⟩) | none => .pointer none
theorem liveV_some {x : Int} {p : Pr} (h : liveP L x = some p) : liveV L nb x = .pointer (some ⟨nb x, 0, none⟩) := by unfold liveV; rw [h]
theorem liveV_none {x : Int} (h : liveP L x = none) : liveV L nb x = .pointer none := by unfold liveV; rw [h]
theorem live_any (x : Int) (hx : I64 x) (h : PR W B T M nb v L last us) :
    Calls Try.prog 31 #[.pointer (some ⟨T, 0, none⟩), .int .i64 x] W fun r w' => r = .returned (liveV L nb x) ∧ W = w' := by
  have hl := h.look hx
  obtain ⟨c0, -, -⟩ := h.cell
  cases hp : atP L x with
  | none =>
    have HR := Lib.hid (show liveV L nb x = .pointer none from liveV_none (by unfold liveP; rw [hp]; rfl))
    rw [ptrV_none hp] at hl
    clear h hp hx
    go_enter Try.func31, Try.ntmps31
    go_wp2
    go_ret
    exact ⟨ret_val HR.out.symm, rfl⟩
  | some p =>
    rw [ptrV_some hp] at hl
    obtain ⟨-, -, -, -, -, c5, -⟩ := h.cells hp
    cases hd : p.dead
    · have HR := Lib.hid (show liveV L nb x = .pointer (some ⟨nb x, 0, none⟩) from liveV_some (live_of hp hd))
      rw [hd] at c5
      clear h hp hd hx
      generalize nb x = b at *
      go_enter Try.func31, Try.ntmps31
      go_wp2
      go_ret
      exact ⟨ret_val HR.out.symm, rfl⟩
    · have HR := Lib.hid (show liveV L nb x = .pointer none from liveV_none (by unfold liveP; rw [hp]; simp [Option.filter, hd]))
      rw [hd] at c5
      clear h hp hd hx
      generalize nb x = b at *
      go_enter Try.func31, Try.ntmps31
      go_wp2
      go_ret
      exact ⟨ret_val HR.out.symm, rfl⟩
theorem known_any (h : PR W B T M nb v L last us) :
    Calls Try.prog 15 #[.pointer (some ⟨T, 0, none⟩)] W fun r w' => r = .returned (.int .i64 us.length) ∧ W = w' := by
  obtain ⟨-, -, c2⟩ := h.cell
  obtain ⟨ao, cap, rfl, -⟩ := own_form h.us
  clear h
  go_enter Try.func15, Try.ntmps15
  go_wp2
  go_ret
  exact ⟨rfl, rfl⟩
theorem isknown_any (u : Int) (h : PR W B T M nb v L last us) (h8 : us.length ≤ 8) :
    Calls Try.prog 42 #[.pointer (some ⟨T, 0, none⟩), .int .i64 u] W fun r w' => r = .returned (.bool (knownP us u)) ∧ W = w' := by
  obtain ⟨-, -, c2⟩ := h.cell
  rcases h.us.2 with ⟨hv, h0⟩ | ⟨g, cap, cur, hv, -, hg, hc, hm, hs, ht⟩
  · have e : us = [] := List.length_eq_zero_iff.1 h0
    subst hv
    have HR := Lib.hid (show knownP us u = false by rw [e]; rfl)
    clear h h0 e h8
    go_enter Try.func42, Try.ntmps42
    go_wp2_with (go_at_call 47; refine (Try.slices_Contains_int_empty _ _ _ _).mono ?_; rintro e w' ⟨rfl, rfl⟩)
    go_ret
    exact ⟨ret_bool HR.out.symm, rfl⟩
  · subst hv
    have hcell : ∀ j, j < us.length → W.cell? ⟨g, 0 + j, none⟩ = some (.int .i64 (us.getD j 0)) := fun j hj => by
      rw [Nat.zero_add, Lib.cell_of_heap hg]
      have e : (intC us)[j]? = some (.int .i64 (us.getD j 0)) := by
        unfold intC
        rw [List.getElem?_map, List.getD_eq_getElem?_getD, List.getElem?_eq_getElem hj]
        rfl
      rw [← ht, List.getElem?_take] at e
      split at e
      · simpa using e
      · cases e
    have HC := Lib.hid fun w' (e : w' = W) => (show Calls Try.prog 47 #[.slice (some ⟨g, 0, none⟩) us.length cap, .int .i64 u] w' fun e w' => e = .returned (.bool (knownP us u)) ∧ w' = W from by
      subst e
      have := Try.slices_Contains_int g 0 us.length cap us u w' (Nat.le_refl _) (by omega) hcell
      rw [List.take_length] at this
      exact this)
    clear h hg hc hm hs ht hcell h8
    generalize us.length = n at *
    go_enter Try.func42, Try.ntmps42
    go_wp2_with (go_at_call 47; refine (HC.out _ rfl).mono ?_; rintro e w' ⟨rfl, rfl⟩)
    go_ret
    exact ⟨rfl, rfl⟩
/-- an answer of seven cells that lie in a block, and a slot. -/
theorem resPr {G : Nat} (ty : TypeId) (hA : ∀ w, (isAgg ty).run Try.prog w = .ok true w) (hZ : ∀ w, (sizeOf ty).run Try.prog w = .ok 7 w) (fn : Func) (sa sb : Nat) (hfn : fn.results = #[.cell sa ty, .tmp sb]) {x : Pr} {b : Value} (h : ∀ (j : Nat) v, (prC x)[j]? = some v → W.cell? ⟨G, j, none⟩ = some v)
    (tmps : Array Value) (h1 : tmps.getD sa undef = .pointer (some ⟨G, 0, none⟩)) (h2 : tmps.getD sb undef = b) :
    (results fn tmps).run Try.prog W = .ok (.tuple #[.agg (prA x), b]) W := by
  have hl : (loadCells ⟨G, 0, none⟩ 7).run Try.prog W = .ok (prA x) W := by
    have := run_loadCells_list (P := Try.prog) W ⟨G, 0, none⟩ (prC x) (fun j v hv => by
      rw [Addr.add_lit, Nat.zero_add]
      exact h j v hv)
    exact this
  have hv : (loadVar ty ⟨G, 0, none⟩).run Try.prog W = .ok (.agg (prA x)) W := by
    simp [loadVar, hA, hZ, hl]
  simp only [Array.getD_eq_getD_getElem?] at h1 h2
  simp [results, hfn, h1, h2, hv, asAddr]
theorem aggP : ∀ w, (isAgg 32).run Try.prog w = .ok true w := fun w => by kernel_rfl
theorem sizeP : ∀ w, (sizeOf 32).run Try.prog w = .ok 7 w := fun w => by kernel_rfl
theorem aggR : ∀ w, (isAgg 35).run Try.prog w = .ok true w := fun w => by kernel_rfl
theorem sizeR : ∀ w, (sizeOf 35).run Try.prog w = .ok 7 w := fun w => by kernel_rfl
theorem lay_pr (w : World) (t : TypeId) (x : Pr) : ∀ (j : Nat) v, (prC x)[j]? = some v → (w.alloc (.cells (prC x).toArray t)).cell? ⟨w.heap.size, j, none⟩ = some v := by
  intro j v hv
  rw [cell_of_row _ w.heap.size j _ _ (0, 0) (heap_alloc_new w _)]
  simpa using hv
def getP (L : List Pr) (x : Int) : Pr := (atP L x).getD zeroPr
def getV (L : List Pr) (x : Int) : Value := .tuple #[.agg (prA (getP L x)), .bool (atP L x).isSome]
set_option maxHeartbeats 1000000 in
theorem get_any (x : Int) (hx : I64 x) (h : PR W B T M nb v L last us) :
    Calls Try.prog 11 #[.pointer (some ⟨T, 0, none⟩), .int .i64 x] W fun r w' => r = .returned (getV L x) ∧ Fr (fun _ => False) W w' := by
  obtain ⟨c0, -, -⟩ := h.cell
  have hT := h.ltT
  unfold getV getP
  cases hp : atP L x with
  | none =>
    have hl2 : ∀ o, (Instr.lookup 56 (.map (some M)) (.int .i64 x) false).run Try.prog (W.alloc o) = .ok (.pointer none) (W.alloc o) := fun o => by
      have := (h.fr ((Fr.refl (fun _ => False) W).alloc o) (fun _ _ => id)).look hx
      rw [ptrV_none hp] at this; exact this
    clear h hp hx
    go_enter Try.func11, Try.ntmps11
    go_wp2
    exact bodyPost_ret (resPr 32 aggP sizeP Try.f11 4 5 rfl (x := zeroPr) (lay_pr W _ zeroPr) _ rfl rfl) rfl ⟨rfl, (Fr.refl _ _).alloc _⟩
  | some p =>
    have hl2 : ∀ o, (Instr.lookup 56 (.map (some M)) (.int .i64 x) false).run Try.prog (W.alloc o) = .ok (.pointer (some ⟨nb x, 0, none⟩)) (W.alloc o) := fun o => by
      have := (h.fr ((Fr.refl (fun _ => False) W).alloc o) (fun _ _ => id)).look hx
      rw [ptrV_some hp] at this; exact this
    obtain ⟨k0, k1, k2, k3, k4, k5, k6⟩ := h.cells hp
    have hN := heap_lt (h.node x p hp)
    clear h hp hx
    generalize nb x = b at *
    go_enter Try.func11, Try.ntmps11
    go_wp2
    exact bodyPost_ret (resPr 32 aggP sizeP Try.f11 4 5 rfl (x := p) (lay_pr W _ p) _ rfl rfl) rfl ⟨rfl, (Fr.refl _ _).alloc _⟩
set_option maxHeartbeats 1000000 in
theorem leads_any (a : Int) (ha : I64 a) (h : TAt W B T S s) :
    Calls Try.prog 21 #[.pointer (some ⟨T, 0, none⟩), .int .i64 a] W fun r w' => r = .returned (.int .i64 (leadE s a)) ∧ Does W B T S (leadT s a) w' := by
  have HA := Lib.hid h
  obtain ⟨M, nb, v, h1, rfl⟩ := h
  have hL := live_any a ha h1
  unfold leadE leadT
  cases hl : liveP s.L a with
  | none =>
    rw [liveV_none hl] at hL
    clear h1 hl
    go_enter Try.func21, Try.ntmps21
    go_wp2_with (go_at_call 31; refine hL.mono ?_; rintro e w' ⟨rfl, rfl⟩)
    go_ret
    exact ⟨rfl, HA.out.does⟩
  | some p =>
    rw [liveV_some hl] at hL
    have hp := (live_some hl).1
    have f3 := h1.frozenN hp 3
    obtain ⟨-, -, -, k3, -⟩ := h1.cells hp
    have H2 := Lib.hid (h1.set1 hp 3 (.int .i64 a) (fun q => { q with session := a }) (fun _ => rfl) rfl)
    have HF : Fr (Bp T M nb v s.L) W (W.setCell ⟨nb a, 3, none⟩ (.int .i64 a)) := (Fr.refl _ _).setCell (.inl (.inr (.inr (.inl ⟨a, p, hp, rfl⟩)))) _
    have HF := Lib.hid HF
    clear h1 hl hp HA
    go_enter Try.func21, Try.ntmps21
    go_wp2_with (go_at_call 31; refine hL.mono ?_; rintro e w' ⟨rfl, rfl⟩)
    go_ret
    exact ⟨rfl, _, ⟨M, nb, v, H2.out, rfl⟩, HF.out, fun k hk => .inl ((Bp.mod (f := fun q => { q with session := a }) (fun _ => rfl)).1 hk)⟩
end Go.Proofs.Ytgbmedbkonloiaa
