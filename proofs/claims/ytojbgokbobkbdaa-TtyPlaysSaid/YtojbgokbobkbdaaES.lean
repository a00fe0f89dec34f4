/- The document's key: end, back, kill. -/
import Derived.Test.YtojbgokbobkbdaaER
namespace Go.Proofs.Ytojbgokbobkbdaa
open Go.RowKit
set_option linter.unusedVariables false
set_option linter.unusedSimpArgs false
variable {W W' : World} {B D : Nat} {v : Value} {off : Bool} {L : List Bs} {line sh : Bs} {R : Nat → Prop} {s : TS}
theorem DAt.typed (h : DAt W B D R s) : W.cell? ⟨D, 1, none⟩ = some (.string ⟨s.line.toArray⟩) := by
  obtain ⟨v, h1, hR⟩ := h
  exact h1.cell.2.1
set_option maxRecDepth 100000 in
set_option maxHeartbeats 2000000 in
theorem rone_end (b : UInt8) (hb : b.toNat = 4) (h : DAt W B D R s) (hk : Ok s) :
    Calls Try.prog 33 #[.pointer (some ⟨D, 0, none⟩), .int .u8 (b.toNat : Int)] W fun r w' => r = .returned (.tuple #[]) ∧ DDoes W B D R (endP s) w' := by
  have HF := Lib.hid (rfull_any h hk)
  have hkl := hk.lines
  have hl2 := hk.line
  have hnil := ba_nil s.line
  obtain ⟨i0, hi, hz0, hz1, hz2⟩ := info_line
  rw [hb]
  by_cases hl0 : s.line.length = 0
  · have hb0 : (⟨s.line.toArray⟩ : ByteArray).toList.isEmpty = true := by rw [hnil, hl0]; rfl
    have hz : s.line = [] := List.eq_nil_of_length_eq_zero hl0
    by_cases hf : isFull s = true
    · have R1 : endP s = s := if_pos ⟨hl0, hf⟩
      rw [hf] at HF
      have HR := Lib.hid R1
      clear h hk R1 hf hz hnil hl0 hl2
      go_enter Try.func33, Try.ntmps33
      go_wp2_with fail
      refine HF.out.mono ?_
      rintro r w1 ⟨rfl, h1, f1⟩
      have c1 := h1.typed
      generalize (⟨s.line.toArray⟩ : ByteArray) = X at *
      clear HF
      go_wp2
      refine bodyPost_end (results_none rfl _ _ _) rfl ?_
      rw [HR.out]
      exact ⟨rfl, R, h1, f1.mono (fun _ _ h => h.elim), fun k hk => .inl hk⟩
    · have R1 : endP s = ⟨s.L ++ [s.line], [], s.echo, s.shown⟩ := if_neg (fun h => hf h.2)
      have hf' : isFull s = false := by simpa using hf
      rw [hf'] at HF
      have HR := Lib.hid R1
      have HZ := Lib.hid hz
      clear h hk R1 hf hf' hnil hl0 hl2 hz
      go_enter Try.func33, Try.ntmps33
      go_wp2_with fail
      refine HF.out.mono ?_
      rintro r w1 ⟨rfl, h1, f1⟩
      have F1 := Lib.hid f1
      obtain ⟨v, h2, hR⟩ := h1
      obtain ⟨d0, d1, d2, d3⟩ := h2.cell
      have hbw : B ≤ w1.heap.size := Nat.le_trans h2.base (Nat.le_of_lt (heap_lt h2.hb))
      have hA := h2.fr (S := fun _ => False) ((Fr.refl _ w1).alloc (.cells #[.string ⟨#[]⟩, .bool true] 57)) (fun _ _ => id)
      have HA := Lib.hid hA
      generalize (⟨s.line.toArray⟩ : ByteArray) = X at *
      clear hA h2 f1 HF
      go_wp2_with (refine wpList_append_lies _ (by rfl) _ _ 27 (by rfl) B 57 i0 _ 2 24 Try.underlying27 hi hz0 hz1 hz2 (by rfl) (by decide) _ s.L.length (rowsC s.L) (by rfl) HA.out.o ⟨w1.heap.size, 0, none⟩ 1 1 [.string ⟨#[]⟩, .bool true] (by rfl) (by rfl) (line_new w1 _ _) (by intro x hx; simp at hx; rcases hx with hx | hx <;> subst hx <;> rfl) (by decide) (by unfold maxLen; omega) (by omega) (by simp; omega) (w1.heap.size + 1) (by simp) ?_)
      intro g cap2 w3 hown hgrow hat hlt
      have fD := (Fr.grown hgrow).block D (heap_lt HA.out.hb) (fun hk => HA.out.nD D hk rfl)
      have g0 := (World.cell?_of_block (a := ⟨D, 0, none⟩) fD).trans HA.out.cell.1
      have e0 := (World.frozen?_of_block (a := ⟨D, 0, none⟩) fD).trans (HA.out.frozen 0)
      have HK := Lib.hid (HA.out.a0 hgrow (row_more s.L s.line _ true (by rw [HZ.out]) (by rw [HZ.out]; rfl) hown) (at_new hat (by simp)))
      clear hown hgrow hat hlt fD d0 d1 d2 d3 HA
      go_wp2
      refine bodyPost_end (results_none rfl _ _ _) rfl ?_
      rw [HR.out]
      have KD := HK.out.1
      rw [HZ.out] at KD ⊢
      refine ⟨rfl, _, ⟨_, KD, rfl⟩, ?_, fun k hk => ?_⟩
      · rw [hR]
        exact ((F1.out.mono (fun _ _ h => h.elim)).alloc _).trans HK.out.2.1
      · rcases HK.out.2.2 k hk with h | h
        · exact .inl (hR ▸ h)
        · right
          have := F1.out.size
          rw [World.size_alloc] at h
          omega
  · have R1 : endP s = ⟨s.L ++ [s.line], [], s.echo, s.shown⟩ := if_neg (fun h => hl0 h.1)
    have hb0 : (⟨s.line.toArray⟩ : ByteArray).toList.isEmpty = false := by rw [hnil]; simpa using hl0
    have HR := Lib.hid R1
    have hlf : (false : Bool) = (s.line.length == 0) := by simp; exact fun h => hl0 (by rw [h]; rfl)
    have HLF := Lib.hid hlf
    clear h hk R1 hnil hl0 hlf
    go_enter Try.func33, Try.ntmps33
    go_wp2_with fail
    refine HF.out.mono ?_
    rintro r w1 ⟨rfl, h1, f1⟩
    have F1 := Lib.hid f1
    obtain ⟨v, h2, hR⟩ := h1
    have hD := h2.fr (S := fun _ => False) ((Fr.refl _ w1).drew) (fun _ _ => id)
    obtain ⟨c0, c1, c2, c3⟩ := hD.cell
    have f0 := hD.frozen 0
    obtain ⟨ao, cap, hv, hcap, hcm⟩ := ownG_form h2.o
    subst hv
    obtain ⟨d0, d1, d2, d3⟩ := h2.cell
    obtain ⟨X, hX⟩ : ∃ X, X = (⟨s.line.toArray⟩ : ByteArray) := ⟨_, rfl⟩
    rw [← hX] at c1 d1 hb0
    have hA := hD.fr (S := fun _ => False) ((Fr.refl _ w1.drew).alloc (.cells #[.string X, .bool false] 57)) (fun _ _ => id)
    have HA := Lib.hid hA
    have HX := Lib.hid hX
    have hDlt : D < w1.heap.size := heap_lt h2.hb
    have hbw : B ≤ w1.heap.size := Nat.le_trans h2.base (Nat.le_of_lt (heap_lt h2.hb))
    clear h2 hX hA f1 HF
    generalize isFull s = fl at *
    go_wp2_with fail
    go_region_law (first
      | (refine step_append_lies _ (by rfl) _ _ 27 (by rfl) B 57 i0 _ 2 24 Try.underlying27 hi hz0 hz1 hz2 (by rfl) (by decide) _ s.L.length (rowsC s.L) (by rfl) HA.out.o
           ⟨w1.heap.size, 0, none⟩ 1 1 [.string X, .bool false] (by rfl) (by rfl) (line_new w1.drew _ _) (by intro x hx; simp at hx; rcases hx with hx | hx <;> subst hx <;> rfl) (by decide) (by unfold maxLen; omega) (by omega) (by simp; omega) (w1.heap.size + 1) (by simp) ?_
         intro g cap2 w3 hown hgrow hat hlt
         have fD := (Fr.grown hgrow).block D (heap_lt HA.out.hb) (fun hk => HA.out.nD D hk rfl)
         have g0 := (World.cell?_of_block (a := ⟨D, 0, none⟩) fD).trans HA.out.cell.1
         have e0 := (World.frozen?_of_block (a := ⟨D, 0, none⟩) fD).trans (HA.out.frozen 0)
         have HK := Lib.hid (HA.out.a0 hgrow (row_more s.L s.line _ false HX.out HLF.out hown) (at_new hat (by simp)))
         clear hown hgrow hat hlt fD))
    all_goals
      have ST := Lib.hid (fin_row F1.out hR HK.out.2.1 HK.out.2.2)
      have KD := Lib.hid HK.out.1
      clear HK g0 e0 c0 c1 c2 c3 d0 d1 d2 d3 f0 HA hD
      generalize w3.setCell ⟨D, 0, none⟩ (.slice (some ⟨g, 0, none⟩) (s.L.length + 1) cap2) = w4 at *
      obtain ⟨-, c1, -, -⟩ := KD.out.cell
      have f1 := KD.out.frozen 1
      have KE := Lib.hid (KD.out.s1 [])
      go_wp2
      refine bodyPost_end (results_none rfl _ _ _) rfl ?_
      rw [HR.out]
      exact ⟨rfl, _, ⟨_, KE.out, rfl⟩, ST.out.trans ⟨(Fr.one _ D 1 _).mono (fun k _ hk => .inl hk), fun k hk => .inl hk⟩⟩
set_option maxRecDepth 100000 in
theorem rone_back (b : UInt8) (hb : b.toNat = 8 ∨ b.toNat = 127) (h : DAt W B D R s) (hk : Ok s) (hs : s.shown.length ≤ 100000000000000) :
    Calls Try.prog 33 #[.pointer (some ⟨D, 0, none⟩), .int .u8 (b.toNat : Int)] W fun r w' => r = .returned (.tuple #[]) ∧ DDoes W B D R (eraseP 1 s) w' := by
  have HF := Lib.hid (rfull_any h hk)
  have HB := Lib.hid (fun w1 (h1 : DAt w1 B D R s) => rback_any h1 hk hs)
  clear h hk
  generalize isFull s = fl at *
  rcases hb with hb | hb
  all_goals
    rw [hb]
    go_enter Try.func33, Try.ntmps33
    go_wp2_with fail
    refine HF.out.mono ?_
    rintro r w1 ⟨rfl, h1, f1⟩
    have HB1 := Lib.hid (HB.out w1 h1)
    have F1 := Lib.hid f1
    clear HF HB h1 f1
    go_wp2_with fail
    refine HB1.out.mono ?_
    rintro r w2 ⟨rfl, h2⟩
    clear HB1
    go_wp2
    refine bodyPost_end (results_none rfl _ _ _) rfl ?_
    exact ⟨rfl, DDoes.then ⟨F1.out.mono (fun _ _ h => h.elim), fun k hk => .inl hk⟩ h2⟩
def tySize (W : World) (D : Nat) : Nat := match W.cell? ⟨D, 1, none⟩ with
  | some (.string x) => x.size
  | _ => 0
theorem DAt.tySize (h : DAt W B D R s) : tySize W D = s.line.length := by
  unfold Proofs.Ytojbgokbobkbdaa.tySize
  rw [h.typed]
  exact ba_size _
def killR (W : World) (B D : Nat) (R : Nat → Prop) (s : TS) (wr : World) : Prop := ∃ k, k ≤ s.line.length ∧ DDoes W B D R (eraseP k s) wr
theorem erase_echo (k : Nat) (s : TS) : (eraseP k s).line.length = s.line.length - k ∧ (eraseP k s).shown.length ≤ s.shown.length + 3 * s.line.length := by
  refine ⟨by simp [eraseP], ?_⟩
  unfold eraseP
  cases s.echo <;> simp [backs_len]
  omega
theorem erase_one_more (k : Nat) (s : TS) (h : k + 1 ≤ s.line.length) : eraseP 1 (eraseP k s) = eraseP (k + 1) s := by
  unfold eraseP
  have h1 : (s.line.take (s.line.length - k)).length = s.line.length - k := by simp
  simp only [h1, List.take_take]
  rw [show min (s.line.length - k - 1) (s.line.length - k) = s.line.length - (k + 1) by omega]
  cases s.echo
  · simp
  · simp only [if_true]
    rw [show min 1 (s.line.length - k) = 1 by omega, show min k s.line.length = k by omega, show min (k + 1) s.line.length = k + 1 by omega, backs_app, List.append_assoc]
set_option maxRecDepth 100000 in
set_option maxHeartbeats 2000000 in
theorem rone_kill (b : UInt8) (hb : b.toNat = 21) (h : DAt W B D R s) (hk : Ok s) (hs : s.shown.length ≤ 10000000000000) :
    Calls Try.prog 33 #[.pointer (some ⟨D, 0, none⟩), .int .u8 (b.toNat : Int)] W fun r w' => r = .returned (.tuple #[]) ∧ DDoes W B D R (eraseP s.line.length s) w' := by
  have HF := Lib.hid (rfull_any h hk)
  have HK := Lib.hid hk
  have hl := hk.line
  clear h hk
  generalize isFull s = fl at *
  rw [hb]
  go_enter Try.func33, Try.ntmps33
  go_wp2_with fail
  refine HF.out.mono ?_
  rintro r w1 ⟨rfl, h1, f1⟩
  have H1 := Lib.hid (DDoes.then (W := W) (R := R) ⟨f1.mono (fun _ _ h => h.elim), fun k hk => .inl hk⟩ h1.does)
  clear HF h1 f1
  go_wp2
  go_loopw [] (fun wr => killR W B D R s wr) (fun wr => tySize wr D)
  case atStart => exact ⟨0, Nat.zero_le _, by rw [erase_zero]; exact H1.out⟩
  case round =>
    obtain ⟨k, hk, R1, h1, st⟩ := hrel
    have hsz := erase_echo k s
    have c1 := h1.typed
    have hnil := ba_nil (eraseP k s).line
    have hty := h1.tySize
    clear H1
    by_cases hkl : k = s.line.length
    · subst hkl
      have hb0 : (⟨(eraseP s.line.length s).line.toArray⟩ : ByteArray).toList.isEmpty = true := by rw [hnil, hsz.1, Nat.sub_self]; rfl
      have HD := Lib.hid (show DDoes W B D R (eraseP s.line.length s) wr from ⟨R1, h1, st⟩)
      generalize (⟨(eraseP s.line.length s).line.toArray⟩ : ByteArray) = X at *
      clear h1 st hsz hnil hty hk
      go_wp2
      refine bodyPost_end (results_none rfl _ _ _) rfl ?_
      exact ⟨rfl, HD.out⟩
    · have hb0 : (⟨(eraseP k s).line.toArray⟩ : ByteArray).toList.isEmpty = false := by rw [hnil, hsz.1]; simp; omega
      have HB := Lib.hid (rback_any h1 (ok_erase HK.out k) (by have := hsz.2; omega))
      rw [erase_one_more k s (by omega)] at HB
      generalize (⟨(eraseP k s).line.toArray⟩ : ByteArray) = X at *
      have ST := Lib.hid st
      have HTY := Lib.hid (hty.trans hsz.1)
      clear h1 st hsz hnil hty
      go_wp2_with fail
      refine HB.out.mono ?_
      rintro r w2 ⟨rfl, h2⟩
      have H2 := Lib.hid (DDoes.then ST.out h2)
      have hm : tySize w2 D < tySize wr D := by
        obtain ⟨R2, h3, _⟩ := h2
        rw [h3.tySize, HTY.out, (erase_echo (k + 1) s).1]
        omega
      have HM := Lib.hid hm
      clear HB h2 ST hm
      go_wp2
      go_roundw
      case rel => exact ⟨k + 1, by omega, H2.out⟩
      case measure => exact HM.out
end Go.Proofs.Ytojbgokbobkbdaa
