/- The small calls of the program's terminal. -/
import Derived.Test.YtojbgokbobkbdaaEC
namespace Go.Proofs.Ytojbgokbobkbdaa
open Go.RowKit
set_option linter.unusedVariables false
set_option linter.unusedSimpArgs false
section
variable {W W' : World} {B T : Nat} {v0 v2 p v5 : Value} {q : Int} {e : Bool} {L : List Bs} {line sh : Bs}
theorem bstr_any (h : TR W B T v0 q v2 e p v5 L line sh) :
    Calls Try.prog 28 #[.pointer (some ⟨T, 4, none⟩)] W fun r w' => r = .returned (.string ⟨sh.toArray⟩) ∧ TR w' B T v0 q v2 e p v5 L line sh ∧ Fr (Bl T v0 v2 v5) W w' := by
  obtain ⟨-, -, -, -, -, c5⟩ := h.cell
  by_cases h0 : sh = []
  · subst h0
    have hv := h.z5 rfl
    subst hv
    have hD := h.fr (S := fun _ => False) ((Fr.refl _ W).drew) (fun _ _ => id)
    have H := Lib.hid hD
    have hUS : ∀ w, (Builtin.unsafeString_ #[65, 3] 9 #[.pointer none, .int .i64 0]).run Try.prog w = .ok (.string .empty) w := fun w => Lib.run_unsafeString_none w _ _ _ _
    have hSD : (Builtin.unsafeSliceData_ #[46] 65 #[.slice none 0 0]).run Try.prog W.drew = .ok (.pointer none) W.drew := rfl
    clear h hD
    go_enter Try.func28, Try.ntmps28
    go_wp2
    go_region
    all_goals
      go_wp2
      go_ret
      exact ⟨rfl, H.out, (Fr.refl _ W).drew⟩
  · have hl0 : sh.length ≠ 0 := by simpa using h0
    have hown := h.o5
    obtain ⟨g, cap, cur, fz, hv, hbg, hg, hfz, hnc, hcm, hcs, htake⟩ : ∃ g cap cur fz, v5 = .slice (some ⟨g, 0, none⟩) sh.length cap ∧ B ≤ g ∧ W.heap[g]? = some (.cells cur 5 fz) ∧ fz.2 ≤ sh.length * 1 ∧ sh.length ≤ cap ∧ cap ≤ maxLen ∧ cur.size = cap * 1 ∧ cur.toList.take (sh.length * 1) = Lib.byteCells sh := by
      rcases hown.2 with ⟨_, hz⟩ | ⟨g, cap, cur, fz, hv, r⟩
      · exact absurd hz hl0
      · exact ⟨g, cap, cur, fz, hv, r⟩
    subst hv
    have hSD : (Builtin.unsafeSliceData_ #[46] 65 #[.slice (some ⟨g, 0, none⟩) sh.length cap]).run Try.prog W.drew = .ok (.pointer (some ⟨g, 0, none⟩)) W.drew :=
      Lib.run_unsafeSliceData_row _ _ _ _ _ _ (by omega)
    have hUS : (Builtin.unsafeString_ #[65, 3] 9 #[.pointer (some ⟨g, 0, none⟩), .int .i64 sh.length]).run Try.prog W.drew = .ok (.string ⟨sh.toArray⟩) (W.drew.freeze ⟨g, 0, none⟩ sh.length) := by
      refine Lib.run_unsafeString_row W.drew 65 3 9 5 Try.underlying65 (by kernel_rfl) g cur.size (by have hg' : W.drew.heap[g]? = some (.cells cur 5 fz) := hg; simp [World.shape?, hg']) sh h0 (by omega) (by unfold maxLen at hcm; omega) ?_
      intro j x hx
      have := hown.cells (g := g) rfl j (.int .u8 x.toNat) (by simp [Lib.byteCells, hx])
      exact this
    have hfin : TR (W.drew.freeze ⟨g, 0, none⟩ sh.length) B T v0 q v2 e p (.slice (some ⟨g, 0, none⟩) sh.length cap) L line sh ∧ Fr (Bl T v0 v2 (.slice (some ⟨g, 0, none⟩) sh.length cap)) W (W.drew.freeze ⟨g, 0, none⟩ sh.length) := by
      have hF : Fr (· = g) W (W.drew.freeze ⟨g, 0, none⟩ sh.length) := by
        unfold World.freeze
        split
        · exact (Fr.refl _ W).drew
        · refine ⟨rfl, rfl, rfl, by simp, fun k hk hn => ?_⟩
          simp only [Array.getElem?_modify]
          rw [if_neg (fun e => hn e.symm)]
          rfl
      refine ⟨⟨?_, h.hp, own_fr h.o0 hF (fun k hk he => ?_), own_fr h.o2 hF (fun k hk he => ?_), ⟨hown.1, ?_⟩, h.n25, h.base, h.z5⟩, hF.mono fun k _ hk => .inr (.inr (.inr (by rw [hk]; rfl)))⟩
      · exact (hF.block T (heap_lt h.hb) (fun he => h.n5 g rfl he.symm)).trans h.hb
      · subst he; exact h.n05 k hk rfl
      · subst he; exact h.n25 k hk rfl
      · unfold World.freeze
        rw [if_neg (by simpa using hl0)]
        obtain ⟨lo, hi⟩ := fz
        refine .inr ⟨g, _, cur, (if lo == hi then (0, 0 + sh.length) else (min lo 0, max hi (0 + sh.length))), rfl, hbg, ?_, ?_, hnc, hcm, hcs, htake⟩
        · have hg' : W.drew.heap[g]? = some (.cells cur 5 (lo, hi)) := hg
          simp [Array.getElem?_modify, hg']
        · simp only at hfz
          split <;> simp <;> omega
    have HF := Lib.hid hfin
    clear hfin h hown hg hfz hnc hcm hcs htake h0 hl0
    go_enter Try.func28, Try.ntmps28
    go_wp2
    go_region
    all_goals
      go_wp2
      go_ret
      exact ⟨rfl, HF.out⟩
theorem full_any (s : TS) {S : Nat → Prop} (h : TAt W B T S s) (hk : Ok s) :
    Calls Try.prog 42 #[.pointer (some ⟨T, 0, none⟩)] W fun r w' => r = .returned (.bool (isFull s)) ∧ TAt w' B T S s ∧ Fr (fun _ => False) W w' := by
  have H := Lib.hid h
  obtain ⟨v0, v2, v5, p, h1, hS⟩ := h
  obtain ⟨-, c1, c2, -, -, -⟩ := h1.cell
  obtain ⟨ao, cap, hv, -⟩ := own_form h1.o2
  rw [hv] at c2
  have k1 := hk.all
  have R : isFull s = decide ((1024 : Int) ≤ (cnt s.L : Int) + s.line.length) := by unfold isFull; congr 1; simp; omega
  have HR := Lib.hid R
  clear h1 hS R
  go_enter Try.func42, Try.ntmps42
  go_wp2
  go_quiet (fail)
  go_wp2
  go_ret
  exact ⟨ret_bool (by rw [HR.out]), H.out.fr (R := fun _ => False) ((Fr.refl _ _).drewN _) (fun _ _ => id), (Fr.refl _ _).drewN _⟩
theorem size_any (t : Bs) (ht : t.length ≤ maxLen) (w : World) :
    Calls Try.prog 32 #[.string ⟨t.toArray⟩] w fun r w' => r = .returned (.int .i64 (max 1 t.length : Nat)) ∧ w = w' := by
  unfold maxLen at ht
  have hz : (⟨t.toArray⟩ : ByteArray).size = t.length := by rw [← ByteArray.size_data]; simp
  by_cases h : t.length ≤ 1
  · have h1 : ¬ ((1 : Int) < t.length) := by omega
    have R : ((max 1 t.length : Nat) : Int) = 1 := by omega
    generalize (⟨t.toArray⟩ : ByteArray) = u at *
    go_enter Try.func32, Try.ntmps32
    go_wp2
    go_ret
    exact ⟨ret_int (by omega), rfl⟩
  · have h1 : ((1 : Int) < t.length) := by omega
    generalize (⟨t.toArray⟩ : ByteArray) = u at *
    go_enter Try.func32, Try.ntmps32
    go_wp2
    go_ret
    exact ⟨ret_int (by omega), rfl⟩
end
end Go.Proofs.Ytojbgokbobkbdaa
