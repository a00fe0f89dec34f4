/- The document's key: enter and end. -/
import Derived.Test.YtojbgokbobkbdaaEQ
import Derived.Deep.RegionLaw
import Derived.Deep.RegionHeld3
namespace Go.Proofs.Ytojbgokbobkbdaa
open Go.RowKit
set_option linter.unusedVariables false
set_option linter.unusedSimpArgs false
theorem info_line : ∃ i, Try.prog.info? 57 = some i ∧ i.zero = some (.agg #[.string .empty, .bool false]) ∧ i.size = 2 ∧ i.bytes = 24 := by
  obtain ⟨i, hi⟩ : ∃ i, Try.prog.info? 57 = some i := by
    cases h : Try.prog.info? 57 with
    | none => have : (Try.prog.info? 57).isSome = true := by kernel_rfl
              rw [h] at this; cases this
    | some i => exact ⟨i, rfl⟩
  have h2 : (Try.prog.info? 57).map (fun i => (i.zero, i.size, i.bytes)) = some (some (.agg #[.string .empty, .bool false]), 2, 24) := by kernel_rfl
  rw [hi] at h2
  simp only [Option.map_some, Option.some.injEq, Prod.mk.injEq] at h2
  exact ⟨i, hi, h2.1, h2.2.1, h2.2.2⟩
theorem line_new (w : World) (u v : Value) : ∀ j x, [u, v][j]? = some x → (w.alloc (.cells #[u, v] 57)).cell? ((⟨w.heap.size, 0, none⟩ : Addr).add j) = some x := by
  intro j x hj
  rw [Addr.add_lit, Nat.zero_add, cell_of_row _ w.heap.size j _ _ (0, 0) (heap_alloc_new w _)]
  match j, hj with
  | 0, hj => exact hj
  | 1, hj => exact hj
section
variable {W W' : World} {B D : Nat} {v : Value} {off : Bool} {L : List Bs} {line sh : Bs} {R : Nat → Prop} {s : TS}
theorem row_more {B : Nat} (L : List Bs) (x : Bs) (u : ByteArray) (f : Bool) (hu : u = ⟨x.toArray⟩) (hf : f = (x.length == 0)) {v' : Value} (h : W.ownsRow B 57 2 v' (L.length + 1) (rowsC L ++ [.string u, .bool f])) : W.ownsRow B 57 2 v' (L ++ [x]).length (rowsC (L ++ [x])) := by
  rw [rowsC_app, List.length_append]
  subst hu hf
  exact h
theorem at_new {v : Value} {w : World} {g n cap k : Nat} (h : v.ownBlock = some g ∨ g = k) (hk : w.heap.size ≤ k) : (Value.slice (some ⟨g, 0, none⟩) n cap).ownBlock = v.ownBlock ∨ ∃ k, (Value.slice (some ⟨g, 0, none⟩) n cap).ownBlock = some k ∧ w.heap.size ≤ k := by
  rcases h with h | h
  · exact .inl h.symm
  · exact .inr ⟨g, rfl, by omega⟩
theorem fin_row {w1 w4 : World} {o : Obj} {v' : Value} (F1 : Fr (fun _ => False) W w1) (hR : R = Bd D v) (k2 : Fr (Bd D v) (w1.drew.alloc o) w4) (k3 : ∀ k, Bd D v' k → Bd D v k ∨ (w1.drew.alloc o).heap.size ≤ k) : Step R (Bd D v') W w4 := by
  subst hR
  refine ⟨((F1.mono (fun _ _ h => h.elim)).drew.alloc o).trans k2, fun k hk => (k3 k hk).imp id fun h => ?_⟩
  have := F1.size
  rw [World.size_alloc] at h
  have h2 : w1.heap.size + 1 ≤ k := h
  omega
set_option maxRecDepth 100000 in
set_option maxHeartbeats 2000000 in
theorem rone_enter (b : UInt8) (hb : b.toNat = 10 ∨ b.toNat = 13) (h : DAt W B D R s) (hk : Ok s) (hs : s.shown.length ≤ 100000000000000) :
    Calls Try.prog 33 #[.pointer (some ⟨D, 0, none⟩), .int .u8 (b.toNat : Int)] W fun r w' => r = .returned (.tuple #[]) ∧ DDoes W B D R (enterP s) w' := by
  have HF := Lib.hid (rfull_any h hk)
  have hkl := hk.lines
  have hl2 := hk.line
  by_cases hf : isFull s = true
  · have R1 : enterP s = s := if_pos hf
    rw [hf] at HF
    have HR := Lib.hid R1
    clear h hk R1 hf
    rcases hb with hb | hb
    all_goals
      rw [hb]
      go_enter Try.func33, Try.ntmps33
      go_wp2_with fail
      refine HF.out.mono ?_
      rintro r w1 ⟨rfl, h1, f1⟩
      clear HF
      go_wp2
      refine bodyPost_ret (results_none rfl _ _ _) rfl ?_
      rw [HR.out]
      exact ⟨rfl, R, h1, f1.mono (fun _ _ h => h.elim), fun k hk => .inl hk⟩
  · have R1 : enterP s = ⟨s.L ++ [s.line ++ [10]], [], s.echo, s.shown ++ [10]⟩ := if_neg hf
    have hf' : isFull s = false := by simpa using hf
    rw [hf'] at HF
    have HR := Lib.hid R1
    clear h hk R1 hf hf'
    obtain ⟨i0, hi, hz0, hz1, hz2⟩ := info_line
    rcases hb with hb | hb
    all_goals
      rw [hb]
      go_enter Try.func33, Try.ntmps33
      go_wp2_with fail
      refine HF.out.mono ?_
      rintro r w1 ⟨rfl, h1, f1⟩
      have F1 := Lib.hid f1
      obtain ⟨v, h2, hR⟩ := h1
      have hD := h2.fr (S := fun _ => False) ((Fr.refl _ w1).drew) (fun _ _ => id)
      obtain ⟨c0, c1, c2, c3⟩ := hD.cell
      have f0 := hD.frozen 0
      obtain ⟨ao, cap, hv, hcap, hcm⟩ := ownG_form h2.o
      subst hv
      obtain ⟨d0, d1, d2, d3⟩ := h2.cell
      have q := (app_list s.line (⟨#[10]⟩ : ByteArray)).symm
      rw [show (⟨#[10]⟩ : ByteArray).data.toList = [10] from rfl] at q
      have hY := ba_size s.line
      obtain ⟨X, hX⟩ : ∃ X, X = (⟨s.line.toArray⟩ : ByteArray) := ⟨_, rfl⟩
      rw [← hX] at c1 d1 q hY
      have hA := hD.fr (S := fun _ => False) ((Fr.refl _ w1.drew).alloc (.cells #[.string (X ++ ⟨#[10]⟩), .bool false] 57)) (fun _ _ => id)
      have HA := Lib.hid hA
      have hDlt : D < w1.heap.size := heap_lt h2.hb
      have hbw : B ≤ w1.heap.size := Nat.le_trans h2.base (Nat.le_of_lt (heap_lt h2.hb))
      have hXY : X.size + 1 ≤ 1000 := by omega
      have hcat : ¬ (9223372036854775807 < X.size + 1) := by omega
      have HYS := Lib.hid hY
      have HQ := Lib.hid q
      clear h2 hX hA f1 HF hY hXY q
      go_wp2_with fail
      go_region_law (first
        | (refine step_append_lies _ (by rfl) _ _ 27 (by rfl) B 57 i0 _ 2 24 Try.underlying27 hi hz0 hz1 hz2 (by rfl) (by decide) _ s.L.length (rowsC s.L) (by rfl) HA.out.o
             ⟨w1.heap.size, 0, none⟩ 1 1 [.string (X ++ ⟨#[10]⟩), .bool false] (by rfl) (by rfl) (line_new w1.drew _ _) (by intro x hx; simp at hx; rcases hx with hx | hx <;> subst hx <;> rfl) (by decide) (by unfold maxLen; omega) (by omega) (by simp; omega) (w1.heap.size + 1) (by simp) ?_
           intro g cap2 w3 hown hgrow hat hlt
           have fD := (Fr.grown hgrow).block D (heap_lt HA.out.hb) (fun hk => HA.out.nD D hk rfl)
           have g0 := (World.cell?_of_block (a := ⟨D, 0, none⟩) fD).trans HA.out.cell.1
           have e0 := (World.frozen?_of_block (a := ⟨D, 0, none⟩) fD).trans (HA.out.frozen 0)
           have HK := Lib.hid (HA.out.a0 hgrow (row_more s.L (s.line ++ [10]) _ false HQ.out.symm (by simp) hown) (at_new hat (by simp)))
           clear hown hgrow hat hlt fD))
      all_goals
        have ST := Lib.hid (fin_row F1.out hR HK.out.2.1 HK.out.2.2)
        have KD := Lib.hid HK.out.1
        clear HK g0 e0 c0 c1 c2 c3 d0 d1 d2 d3 f0 HA hD
        generalize w3.setCell ⟨D, 0, none⟩ (.slice (some ⟨g, 0, none⟩) (s.L.length + 1) cap2) = w4 at *
        obtain ⟨-, c1, -, c3⟩ := KD.out.cell
        have f1 := KD.out.frozen 1
        have f3 := KD.out.frozen 3
        have q2 := (app_list s.shown (⟨#[10]⟩ : ByteArray)).symm
        rw [show (⟨#[10]⟩ : ByteArray).data.toList = [10] from rfl] at q2
        have hZ := ba_size s.shown
        have KE := Lib.hid ((KD.out.s1 []).s3 (s.shown ++ [10]))
        rw [q2] at KE
        obtain ⟨Z, hZZ⟩ : ∃ Z, Z = (⟨s.shown.toArray⟩ : ByteArray) := ⟨_, rfl⟩
        rw [← hZZ] at c3 hZ KE
        have hcat2 : Z.size + 1 ≤ 140737488355328 := by omega
        clear q2 hZ hZZ
        go_wp2
        refine bodyPost_end (results_none rfl _ _ _) rfl ?_
        rw [HR.out]
        exact ⟨rfl, _, ⟨_, KE.out, rfl⟩, ST.out.trans ⟨((Fr.one _ D 1 _).trans (Fr.one _ D 3 _)).mono (fun k _ hk => .inl hk), fun k hk => .inl hk⟩⟩
end
end Go.Proofs.Ytojbgokbobkbdaa
