/- The document's key: add; Type. -/
import Derived.Test.YtojbgokbobkbdaaES
import Derived.Test.YtojbgokbobkbdaaEP
namespace Go.Proofs.Ytojbgokbobkbdaa
open Go.RowKit
set_option linter.unusedVariables false
set_option linter.unusedSimpArgs false
variable {W W' : World} {B D : Nat} {v : Value} {off : Bool} {L : List Bs} {line sh : Bs} {R : Nat → Prop} {s : TS}
theorem cell_self (w : World) (c : UInt8) : (w.alloc (.cells #[.int .u8 (c.toNat : Int)] 5)).cell? ⟨w.heap.size, 0, none⟩ = some (.int .u8 (c.toNat : Int)) := by
  rw [cell_of_row _ w.heap.size 0 _ _ (0, 0) (heap_alloc_new w _)]; rfl
theorem conv_new2 (c : UInt8) (w : World) : (convert 46 9 (.slice (some ⟨w.heap.size, 0, none⟩) 1 1)).run Try.prog (w.alloc (.cells #[.int .u8 (c.toNat : Int)] 5)).drew = .ok (.string ⟨#[c]⟩) (w.alloc (.cells #[.int .u8 (c.toNat : Int)] 5)).drew := conv_new c w.drew
set_option maxRecDepth 100000 in
set_option maxHeartbeats 2000000 in
theorem rone_add (b : UInt8) (hb : prints b) (h : DAt W B D R s) (hk : Ok s) (hs : s.shown.length ≤ 100000000000000) :
    Calls Try.prog 33 #[.pointer (some ⟨D, 0, none⟩), .int .u8 (b.toNat : Int)] W fun r w' => r = .returned (.tuple #[]) ∧ DDoes W B D R (addP b s) w' := by
  have HF := Lib.hid (rfull_any h hk)
  have hl := hk.line
  have e1 : ((b.toNat : Int) == 10) = false := by unfold prints at hb; simp; omega
  have e2 : ((b.toNat : Int) == 13) = false := by unfold prints at hb; simp; omega
  have e3 : ((b.toNat : Int) == 4) = false := by unfold prints at hb; simp; omega
  have e4 : ((b.toNat : Int) == 8) = false := by unfold prints at hb; simp; omega
  have e5 : ((b.toNat : Int) == 127) = false := by unfold prints at hb; simp; omega
  have e6 : ((b.toNat : Int) == 21) = false := by unfold prints at hb; simp; omega
  have e7 : (((b.toNat : Int) == 9) = true) ∨ (((b.toNat : Int) == 9) = false ∧ (32 : Int) ≤ b.toNat ∧ (b.toNat : Int) ≤ 126) := by
    unfold prints at hb
    by_cases h9 : b.toNat = 9
    · exact .inl (by rw [h9]; rfl)
    · exact .inr ⟨by simp; omega, by omega, by omega⟩
  clear hb
  by_cases hf : isFull s = true
  · have R1 : addP b s = s := if_pos (.inr hf)
    rw [hf] at HF
    have HR := Lib.hid R1
    clear h hk R1 hf
    rcases e7 with e7 | ⟨e7, e8, e9⟩
    all_goals
      go_enter Try.func33, Try.ntmps33
      go_wp2_with fail
      refine HF.out.mono ?_
      rintro r w1 ⟨rfl, h1, f1⟩
      clear HF
      go_wp2
      refine bodyPost_ret (results_none rfl _ _ _) rfl ?_
      rw [HR.out]
      exact ⟨rfl, R, h1, f1.mono (fun _ _ h => h.elim), fun k hk => .inl hk⟩
  have hf' : isFull s = false := by simpa using hf
  rw [hf'] at HF
  by_cases hline : 256 ≤ s.line.length
  · have R1 : addP b s = s := if_pos (.inl hline)
    have HR := Lib.hid R1
    have hsz := ba_size s.line
    have hi : (256 : Int) ≤ (⟨s.line.toArray⟩ : ByteArray).size := by omega
    clear h hk R1 hf hf' hline hsz
    rcases e7 with e7 | ⟨e7, e8, e9⟩
    all_goals
      go_enter Try.func33, Try.ntmps33
      go_wp2_with fail
      refine HF.out.mono ?_
      rintro r w1 ⟨rfl, h1, f1⟩
      have c1 := h1.typed
      generalize (⟨s.line.toArray⟩ : ByteArray) = X at *
      clear HF
      go_wp2
      refine bodyPost_ret (results_none rfl _ _ _) rfl ?_
      rw [HR.out]
      exact ⟨rfl, R, h1, f1.mono (fun _ _ h => h.elim), fun k hk => .inl hk⟩
  · have R1 : addP b s = ⟨s.L, s.line ++ [b], s.echo, if s.echo then s.shown ++ [b] else s.shown⟩ := if_neg (by rintro (h | h); exact hline h; exact hf h)
    have HR := Lib.hid R1
    have hsz := ba_size s.line
    have hi : ¬ (256 : Int) ≤ (⟨s.line.toArray⟩ : ByteArray).size := by omega
    have hzs := ba_size s.shown
    have hca : (⟨s.line.toArray⟩ : ByteArray).size + 1 ≤ 140737488355328 := by omega
    have hcb : (⟨s.shown.toArray⟩ : ByteArray).size + 1 ≤ 140737488355328 := by omega
    clear h hk R1 hf hf' hline hsz hzs
    rcases e7 with e7 | ⟨e7, e8, e9⟩
    all_goals
      go_enter Try.func33, Try.ntmps33
      go_wp2_with fail
      refine HF.out.mono ?_
      rintro r w1 ⟨rfl, h1, f1⟩
      clear HF
      have F1 := Lib.hid f1
      obtain ⟨v, h2, hR⟩ := h1
      obtain ⟨-, c1, c2, c3⟩ := h2.cell
      have hD := h2.fr (S := fun _ => False) ((Fr.refl _ w1).drew) (fun _ _ => id)
      obtain ⟨-, d1, d2, d3⟩ := hD.cell
      have f1' := hD.frozen 1
      have hDlt : D < w1.heap.size := heap_lt h2.hb
      have hcv := conv_new2 b w1
      have hB := h2.fr (S := fun _ => False) ((Fr.refl _ w1).alloc (.cells #[.int .u8 (b.toNat : Int)] 5)) (fun _ _ => id)
      have hA := hB.fr (S := fun _ => False) ((Fr.refl _ _).drew) (fun _ _ => id)
      have g1 := h2.frozen 1
      have hb1 := hB.cell.2.1
      have hbf := hB.frozen 1
      have hq := app_list s.line (⟨#[b]⟩ : ByteArray)
      rw [show (⟨#[b]⟩ : ByteArray).data.toList = [b] from rfl] at hq
      have HA := Lib.hid (((h2.s1 (s.line ++ [b])).fr (S := fun _ => False) ((Fr.refl _ _).alloc (.cells #[.int .u8 (b.toNat : Int)] 5)) (fun _ _ => id)).fr (S := fun _ => False) ((Fr.refl _ _).drew) (fun _ _ => id))
      have FA := Lib.hid ((((Fr.one w1 D 1 (.string ⟨(s.line ++ [b]).toArray⟩)).mono (fun k _ hk => (.inl hk : Bd D v k))).alloc (.cells #[.int .u8 (b.toNat : Int)] 5)).drew)
      rw [← hq] at HA FA
      have ha1 := hA.cell.2.1
      have hf1 := hA.frozen 1
      obtain ⟨X, hX⟩ : ∃ X, X = (⟨s.line.toArray⟩ : ByteArray) := ⟨_, rfl⟩
      rw [← hX] at c1 d1 hi hca HA FA ha1 hb1
      clear f1 h2 hD hA hB hX hq
      go_wp2
      go_region
      all_goals
        clear c1 c2 c3 d1 d2 d3 f1' g1 hb1 hbf ha1 hf1 hcv hca hi hDlt
        generalize ((w1.setCell ⟨D, 1, none⟩ (.string (X ++ ⟨#[b]⟩))).alloc (.cells #[.int .u8 (b.toNat : Int)] 5)).drew = w2 at *
        have ST := Lib.hid (⟨(F1.out.mono (fun _ _ h => h.elim)).trans (hR ▸ FA.out : Fr R w1 w2), fun k hk => .inl (hR ▸ hk)⟩ : Step R (Bd D v) W w2)
        have h2 := HA.out
        obtain ⟨-, -, c2, c3⟩ := h2.cell
        have hD := h2.fr (S := fun _ => False) ((Fr.refl _ w2).drew) (fun _ _ => id)
        obtain ⟨-, -, d2, d3⟩ := hD.cell
        have f3' := hD.frozen 3
        have hDlt : D < w2.heap.size := heap_lt h2.hb
        have hcv := conv_new2 b w2
        have hB := h2.fr (S := fun _ => False) ((Fr.refl _ w2).alloc (.cells #[.int .u8 (b.toNat : Int)] 5)) (fun _ _ => id)
        have hA := hB.fr (S := fun _ => False) ((Fr.refl _ _).drew) (fun _ _ => id)
        have g3 := h2.frozen 3
        have hb3 := hB.cell.2.2.2
        have hbf := hB.frozen 3
        have hq := app_list s.shown (⟨#[b]⟩ : ByteArray)
        rw [show (⟨#[b]⟩ : ByteArray).data.toList = [b] from rfl] at hq
        have HA2 := Lib.hid (((h2.s3 (s.shown ++ [b])).fr (S := fun _ => False) ((Fr.refl _ _).alloc (.cells #[.int .u8 (b.toNat : Int)] 5)) (fun _ _ => id)).fr (S := fun _ => False) ((Fr.refl _ _).drew) (fun _ _ => id))
        have FA2 := Lib.hid ((((Fr.one w2 D 3 (.string ⟨(s.shown ++ [b]).toArray⟩)).mono (fun k _ hk => (.inl hk : Bd D v k))).alloc (.cells #[.int .u8 (b.toNat : Int)] 5)).drew)
        rw [← hq] at HA2 FA2
        have ha3 := hA.cell.2.2.2
        have hf3 := hA.frozen 3
        obtain ⟨Z, hZ⟩ : ∃ Z, Z = (⟨s.shown.toArray⟩ : ByteArray) := ⟨_, rfl⟩
        rw [← hZ] at c3 d3 hcb HA2 FA2 ha3 hb3
        clear h2 hD hA hB hZ hq FA
        cases he : s.echo
        · rw [he] at HR c2 d2
          clear c3 d3 f3' g3 hb3 hbf ha3 hf3 hcv HA2 FA2
          go_wp2
          refine bodyPost_end (results_none rfl _ _ _) rfl ?_
          rw [HR.out]
          refine ⟨rfl, _, ⟨v, ?_, rfl⟩, ST.out⟩
          have h3 := HA.out
          rw [he] at h3
          exact h3
        · rw [he] at HR c2 d2
          clear HA
          go_wp2
          go_region
          all_goals
            have h3 := HA2.out
            rw [he] at h3
            have FB := FA2.out
            clear c2 d2 c3 d3 f3' g3 hb3 hbf ha3 hf3 hcv HA2 FA2
            go_wp2
            refine bodyPost_end (results_none rfl _ _ _) rfl ?_
            rw [HR.out]
            exact ⟨rfl, _, ⟨v, h3, rfl⟩, Step.trans ST.out ⟨FB, fun k hk => .inl hk⟩⟩
theorem rone_other (b : UInt8) (h1 : ¬ (b.toNat = 10 ∨ b.toNat = 13)) (h2 : b.toNat ≠ 4) (h3 : ¬ (b.toNat = 8 ∨ b.toNat = 127)) (h4 : b.toNat ≠ 21) (hb : ¬ prints b) (h : DAt W B D R s) (hk : Ok s) :
    Calls Try.prog 33 #[.pointer (some ⟨D, 0, none⟩), .int .u8 (b.toNat : Int)] W fun r w' => r = .returned (.tuple #[]) ∧ DDoes W B D R s w' := by
  have HF := Lib.hid (rfull_any h hk)
  have e1 : ((b.toNat : Int) == 10) = false := by simp; omega
  have e2 : ((b.toNat : Int) == 13) = false := by simp; omega
  have e3 : ((b.toNat : Int) == 4) = false := by simp; omega
  have e4 : ((b.toNat : Int) == 8) = false := by simp; omega
  have e5 : ((b.toNat : Int) == 127) = false := by simp; omega
  have e6 : ((b.toNat : Int) == 21) = false := by simp; omega
  have e7 : ((b.toNat : Int) == 9) = false ∧ (¬ (32 : Int) ≤ b.toNat ∨ ((32 : Int) ≤ b.toNat ∧ ¬ (b.toNat : Int) ≤ 126)) := by
    unfold prints at hb
    exact ⟨by simp; omega, by omega⟩
  clear h hk h1 h2 h3 h4 hb
  generalize isFull s = fl at *
  obtain ⟨e7, e8 | ⟨e8, e9⟩⟩ := e7
  all_goals
    go_enter Try.func33, Try.ntmps33
    go_wp2_with fail
    refine HF.out.mono ?_
    rintro r w1 ⟨rfl, h1, f1⟩
    clear HF
    go_wp2
    refine bodyPost_end (results_none rfl _ _ _) rfl ?_
    exact ⟨rfl, R, h1, f1.mono (fun _ _ h => h.elim), fun k hk => .inl hk⟩
theorem rone_any (b : UInt8) (h : DAt W B D R s) (hk : Ok s) (hs : s.shown.length ≤ 10000000000000) :
    Calls Try.prog 33 #[.pointer (some ⟨D, 0, none⟩), .int .u8 (b.toNat : Int)] W fun r w' => r = .returned (.tuple #[]) ∧ DDoes W B D R (keyP b s) w' := by
  unfold keyP
  by_cases k1 : b.toNat = 10 ∨ b.toNat = 13
  · rw [if_pos k1]; exact rone_enter b k1 h hk (by omega)
  rw [if_neg k1]
  by_cases k2 : b.toNat = 4
  · rw [if_pos k2]; exact rone_end b k2 h hk
  rw [if_neg k2]
  by_cases k3 : b.toNat = 8 ∨ b.toNat = 127
  · rw [if_pos k3]; exact rone_back b k3 h hk (by omega)
  rw [if_neg k3]
  by_cases k4 : b.toNat = 21
  · rw [if_pos k4]; exact rone_kill b k4 h hk hs
  rw [if_neg k4]
  by_cases k5 : prints b
  · rw [if_pos k5]; exact rone_add b k5 h hk (by omega)
  · rw [if_neg k5]; exact rone_other b k1 k2 k3 k4 k5 h hk
def rtypeRel (W : World) (B D : Nat) (R : Nat → Prop) (s : TS) (l : Bs) (iv : Value) (wr : World) : Prop := ∃ (k : Nat), iv = .int .i64 k ∧ k ≤ l.length ∧ DDoes W B D R (typeP (l.take k) s) wr
set_option maxHeartbeats 2000000 in
theorem rtype_any (t : ByteArray) (ht : t.size ≤ 100000000) (h : DAt W B D R s) (hk : Ok s) (hs : s.shown.length ≤ 1000000000000) :
    Calls Try.prog 21 #[.pointer (some ⟨D, 0, none⟩), .string t] W fun r w' => r = .returned (.tuple #[]) ∧ DDoes W B D R (typeP t.data.toList s) w' := by
  have H0 := Lib.hid h.does
  have HK := Lib.hid hk
  have hl : t.data.toList.length = t.size := rfl
  have HL := Lib.hid hl
  clear h hk hl
  go_enter Try.func21, Try.ntmps21
  go_wp2
  go_loopw [4] (fun iv wr => rtypeRel W B D R s t.data.toList iv wr) (fun iv _ => t.size - (Lib.intOf iv).toNat)
  case atStart => exact ⟨0, rfl, Nat.zero_le _, H0.out⟩
  case round =>
    obtain ⟨k, rfl, hk, S1, h1, st⟩ := hrel
    rw [HL.out] at hk
    clear H0
    by_cases hlt : k < t.size
    · have i1 : (k : Int) < t.size := by omega
      have i0 : (0 : Int) ≤ k := by omega
      have hkl : k < t.data.toList.length := by rw [HL.out]; exact hlt
      have hs1 := shown_type HK.out (t.data.toList.take k)
      have hkt : (t.data.toList.take k).length ≤ 100000000 := by rw [List.length_take, HL.out]; omega
      have HQ := Lib.hid (rone_any t.data.toList[k] h1 (ok_type HK.out _) (by omega))
      have ST := Lib.hid st
      have HT := Lib.hid (take_snoc _ k hkl)
      clear h1 st hs1 hkt hk
      go_wp2_with fail
      refine HQ.out.mono ?_
      rintro r w2 ⟨rfl, h2⟩
      have H2 := Lib.hid (DDoes.then ST.out h2)
      clear HQ h2 ST
      go_wp2
      go_roundw
      case rel =>
        refine ⟨k + 1, by go_num, by rw [HL.out]; omega, ?_⟩
        rw [HT.out, typeP_app, typeP_one]
        exact H2.out
      case measure => simp [Lib.intOf]; omega
    · have hkn : k = t.size := by omega
      have hR : t.data.toList.take k = t.data.toList := List.take_of_length_le (by rw [HL.out]; omega)
      rw [hR] at h1
      have i1 : ¬ (k : Int) < t.size := by omega
      have HD := Lib.hid (show DDoes W B D R (typeP t.data.toList s) wr from ⟨S1, h1, st⟩)
      clear h1 st hR
      go_wp2
      refine bodyPost_end (results_none rfl _ _ _) rfl ?_
      exact ⟨rfl, HD.out⟩
end Go.Proofs.Ytojbgokbobkbdaa
