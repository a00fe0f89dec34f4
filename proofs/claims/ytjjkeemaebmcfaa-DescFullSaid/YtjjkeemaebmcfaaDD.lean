/- Contracts: New, Open. -/
import Derived.Test.YtjjkeemaebmcfaaDC
namespace Go.Proofs.Ytjjkeemaebmcfaa
open Go.RowKit
set_option linter.unusedVariables false
set_option linter.unusedSimpArgs false
variable {W W' : World} {P : Nat} {e : Tab}

def emptyT : Tab := fun _ => Ent.zero
theorem pnew_any (w : World) :
    Calls Try.prog 9 #[] w fun r w' => r = .returned (.pointer (some ⟨w.heap.size, 0, none⟩)) ∧ TB 63 w' w.heap.size emptyT ∧ Below w.heap.size w w' := by
  obtain ⟨Z, hz, h1, h2⟩ := zeroT 63 zeroP
  have HZ := Lib.hid hz
  have H2 := Lib.hid h2
  have z1 : ¬ Z = #[] := fun e => by rw [e] at hz; simp at hz
  clear hz h2
  go_enter Try.func9, Try.ntmps9
  go_wp2
  go_ret
  exact ⟨rfl, H2.out w, (Below.refl _ _).alloc (Nat.le_refl _) _⟩
/-- the least free number, or sixty. -/
def ffr (e : Tab) : Nat → Nat
  | 0 => 60
  | m + 1 => if (e (59 - m)).n = 0 then 59 - m else ffr e m
def ff (e : Tab) : Nat := ffr e 60
theorem ffr_step (e : Tab) {k : Nat} (hk : k < 60) : ffr e (60 - k) = if (e k).n = 0 then k else ffr e (60 - (k + 1)) := by
  rw [show 60 - k = (60 - (k + 1)) + 1 by omega, ffr, show 59 - (60 - (k + 1)) = k by omega]
theorem ffr_le (e : Tab) : ∀ m, ffr e m ≤ 60
  | 0 => Nat.le_refl _
  | m + 1 => by
    unfold ffr
    split
    · omega
    · exact ffr_le e m
def okD (d : Ent) : Bool := decide (1 ≤ d.of) && decide (d.of ≤ 3)
def openN (e : Tab) (d : Ent) : Nat := if okD d && decide (ff e < 60) then ff e else 0
def openX (e : Tab) (d : Ent) : Int := if okD d then (if ff e < 60 then 0 else 12) else 1
def openT (e : Tab) (d : Ent) : Tab := if okD d && decide (ff e < 60) then upd e (ff e) { d with n := 1 } else e
theorem open_bad {e : Tab} {d : Ent} (h : okD d = false) : openN e d = 0 ∧ openX e d = 1 ∧ openT e d = e := by
  unfold openN openX openT; simp [h]
theorem open_at {e : Tab} {d : Ent} (h : okD d = true) {k : Nat} (hk : k < 60) (hf : ff e = k) : openN e d = k ∧ openX e d = 0 ∧ openT e d = upd e k { d with n := 1 } := by
  unfold openN openX openT; simp [h, hf, hk]
theorem open_full {e : Tab} {d : Ent} (h : okD d = true) (hf : ff e = 60) : openN e d = 0 ∧ openX e d = 12 ∧ openT e d = e := by
  unfold openN openX openT; simp [h, hf]
theorem popen_any (d : Ent) (w : World) (h : TB 63 w P e) :
    Calls Try.prog 10 #[.pointer (some ⟨P, 0, none⟩), .agg d.desc.toArray] w fun r w' => r = .returned (.tuple #[.int .i64 (openN e d), .int .i64 (openX e d)]) ∧ TB 63 w' P (openT e d) ∧ Fr (· = P) w w' := by
  obtain ⟨N, hN⟩ : ∃ N, openN e d = N := ⟨_, rfl⟩
  obtain ⟨X, hX⟩ : ∃ X, openX e d = X := ⟨_, rfl⟩
  obtain ⟨T, hT⟩ : ∃ T, openT e d = T := ⟨_, rfl⟩
  rw [hN, hX, hT]
  obtain ⟨o, t, wt, en, at_, n⟩ := d
  have HNX := Lib.hid (And.intro hN (And.intro hX hT))
  clear hN hX hT
  have H := Lib.hid h
  have hP := h.lt
  have hd : (Ent.mk o t wt en at_ n).desc.toArray = #[.int .i64 o, .int .i64 t, .int .i64 wt, .bool en, .int .i64 at_] := rfl
  rw [hd]
  clear hd
  by_cases h1 : 1 ≤ o
  · by_cases h2 : o ≤ 3
    · have e1 : okD ⟨o, t, wt, en, at_, n⟩ = true := by simp [okD, h1, h2]
      have E1 := Lib.hid e1
      clear e1 h
      go_enter Try.func10, Try.ntmps10
      go_wp2
      go_loopw [15] (fun iv w' => ∃ k : Nat, iv = .int .i64 k ∧ k ≤ 60 ∧ w' = w.alloc (.cells #[.int .i64 o, .int .i64 t, .int .i64 wt, .bool en, .int .i64 at_] 28) ∧ ff e = ffr e (60 - k)) (fun iv _ => 60 - (intOf iv).toNat)
      case atStart => exact ⟨0, rfl, by decide, rfl, rfl⟩
      case round =>
        obtain ⟨k, rfl, hk, rfl, hf⟩ := hrel
        by_cases hlt : k < 60
        · rw [ffr_step e hlt] at hf
          have c5 := H.out.c5 hlt
          by_cases h0 : (e k).n = 0
          · have c5' : w.cell? ⟨P, k * 6 + 5, none⟩ = some (.int .i64 0) := by rw [c5, h0]; rfl
            rw [if_pos h0] at hf
            obtain ⟨q1, q2, q3⟩ := open_at E1.out hlt hf
            have f0 := H.out.frozen (k * 6)
            have f1 := H.out.frozen (k * 6 + 1)
            have f2 := H.out.frozen (k * 6 + 2)
            have f3 := H.out.frozen (k * 6 + 3)
            have f4 := H.out.frozen (k * 6 + 4)
            have f5 := H.out.frozen (k * 6 + 5)
            have c0 := H.out.c0 hlt
            have c1 := H.out.c1 hlt
            have c2 := H.out.c2 hlt
            have c3 := H.out.c3 hlt
            have c4 := H.out.c4 hlt
            rw [HNX.out.1] at q1
            rw [HNX.out.2.1] at q2
            rw [HNX.out.2.2] at q3
            have QQ := Lib.hid (And.intro q1 (And.intro q2 q3))
            clear c5 hf h0 q1 q2 q3
            go_wp2_with fail
            go_region
            change Exit.then _ _ _ _ ((((w.setCells P (k * 6) (Ent.mk o t wt en at_ 1).cells)).alloc (.cells #[.int .i64 o, .int .i64 t, .int .i64 wt, .bool en, .int .i64 at_] 28)).drew)
            have HT := H.out.setAll k (Ent.mk o t wt en at_ 1)
            have HB := Fr.setCells (S := (· = P)) (g := P) (.inl rfl) (Ent.mk o t wt en at_ 1).cells (k * 6) _ (Fr.refl _ w)
            generalize w.setCells P (k * 6) (Ent.mk o t wt en at_ 1).cells = V at *
            have HT2 := Lib.hid (HT.fr (S := fun _ => False) (((Fr.refl _ _).alloc (.cells #[.int .i64 o, .int .i64 t, .int .i64 wt, .bool en, .int .i64 at_] 28)).drew) id)
            have HB2 := Lib.hid ((HB.alloc (.cells #[.int .i64 o, .int .i64 t, .int .i64 wt, .bool en, .int .i64 at_] 28)).drew)
            clear HT HB
            go_wp2
            go_ret2
            rw [QQ.out.1, QQ.out.2.1, QQ.out.2.2]
            exact ⟨rfl, HT2.out, HB2.out⟩
          · have g0 : (((e k).n : Int) == 0) = false := by simp [h0]
            rw [if_neg h0] at hf
            clear h0
            generalize ((e k).n : Int) = m at *
            go_wp2
            go_roundw
            case rel => exact ⟨k + 1, by go_num, by omega, by trivial, hf⟩
            case measure => simp [intOf]; omega
        · rw [show 60 - k = 0 by omega] at hf
          have hf2 : ff e = 60 := hf
          obtain rfl : k = 60 := by omega
          obtain ⟨q1, q2, q3⟩ := open_full E1.out hf2
          rw [HNX.out.1] at q1
          rw [HNX.out.2.1] at q2
          rw [HNX.out.2.2] at q3
          have QQ := Lib.hid (And.intro q1 (And.intro q2 q3))
          clear hf hf2 q1 q2 q3
          go_wp2
          go_ret2
          rw [QQ.out.1, QQ.out.2.1, QQ.out.2.2]
          exact ⟨rfl, H.out.fr (S := fun _ => False) ((Fr.refl _ _).alloc _) id, (Fr.refl _ _).alloc _⟩
    · have e1 : okD ⟨o, t, wt, en, at_, n⟩ = false := by simp [okD]; omega
      obtain ⟨q1, q2, q3⟩ := open_bad (e := e) e1
      rw [HNX.out.1] at q1
      rw [HNX.out.2.1] at q2
      rw [HNX.out.2.2] at q3
      have QQ := Lib.hid (And.intro q1 (And.intro q2 q3))
      clear e1 h q1 q2 q3
      go_enter Try.func10, Try.ntmps10
      go_wp2
      go_ret2
      rw [QQ.out.1, QQ.out.2.1, QQ.out.2.2]
      exact ⟨rfl, H.out.fr (S := fun _ => False) ((Fr.refl _ _).alloc _) id, (Fr.refl _ _).alloc _⟩
  · have e1 : okD ⟨o, t, wt, en, at_, n⟩ = false := by simp [okD]; omega
    obtain ⟨q1, q2, q3⟩ := open_bad (e := e) e1
    rw [HNX.out.1] at q1
    rw [HNX.out.2.1] at q2
    rw [HNX.out.2.2] at q3
    have QQ := Lib.hid (And.intro q1 (And.intro q2 q3))
    clear e1 h q1 q2 q3
    go_enter Try.func10, Try.ntmps10
    go_wp2
    go_ret2
    rw [QQ.out.1, QQ.out.2.1, QQ.out.2.2]
    exact ⟨rfl, H.out.fr (S := fun _ => False) ((Fr.refl _ _).alloc _) id, (Fr.refl _ _).alloc _⟩
theorem ropen_any (d : Ent) (w : World) (h : TB 33 w P e) :
    Calls Try.prog 11 #[.pointer (some ⟨P, 0, none⟩), .agg d.desc.toArray] w fun r w' => r = .returned (.tuple #[.int .i64 (openN e d), .int .i64 (openX e d)]) ∧ TB 33 w' P (openT e d) ∧ Fr (· = P) w w' := by
  obtain ⟨N, hN⟩ : ∃ N, openN e d = N := ⟨_, rfl⟩
  obtain ⟨X, hX⟩ : ∃ X, openX e d = X := ⟨_, rfl⟩
  obtain ⟨T, hT⟩ : ∃ T, openT e d = T := ⟨_, rfl⟩
  rw [hN, hX, hT]
  obtain ⟨o, t, wt, en, at_, n⟩ := d
  have HNX := Lib.hid (And.intro hN (And.intro hX hT))
  clear hN hX hT
  have H := Lib.hid h
  have hP := h.lt
  have hd : (Ent.mk o t wt en at_ n).desc.toArray = #[.int .i64 o, .int .i64 t, .int .i64 wt, .bool en, .int .i64 at_] := rfl
  rw [hd]
  clear hd
  by_cases h1 : 1 ≤ o
  · by_cases h2 : o ≤ 3
    · have e1 : okD ⟨o, t, wt, en, at_, n⟩ = true := by simp [okD, h1, h2]
      have E1 := Lib.hid e1
      clear e1 h
      go_enter Try.func11, Try.ntmps11
      go_wp2
      go_loopw [6] (fun iv w' => ∃ k : Nat, iv = .int .i64 k ∧ k ≤ 60 ∧ w' = w.alloc (.cells #[.int .i64 o, .int .i64 t, .int .i64 wt, .bool en, .int .i64 at_] 28) ∧ ff e = ffr e (60 - k)) (fun iv _ => 60 - (intOf iv).toNat)
      case atStart => exact ⟨0, rfl, by decide, rfl, rfl⟩
      case round =>
        obtain ⟨k, rfl, hk, rfl, hf⟩ := hrel
        by_cases hlt : k < 60
        · rw [ffr_step e hlt] at hf
          have c5 := H.out.c5 hlt
          by_cases h0 : (e k).n = 0
          · have c5' : w.cell? ⟨P, k * 6 + 5, none⟩ = some (.int .i64 0) := by rw [c5, h0]; rfl
            rw [if_pos h0] at hf
            obtain ⟨q1, q2, q3⟩ := open_at E1.out hlt hf
            have f0 := H.out.frozen (k * 6)
            have f1 := H.out.frozen (k * 6 + 1)
            have f2 := H.out.frozen (k * 6 + 2)
            have f3 := H.out.frozen (k * 6 + 3)
            have f4 := H.out.frozen (k * 6 + 4)
            have f5 := H.out.frozen (k * 6 + 5)
            have c0 := H.out.c0 hlt
            have c1 := H.out.c1 hlt
            have c2 := H.out.c2 hlt
            have c3 := H.out.c3 hlt
            have c4 := H.out.c4 hlt
            rw [HNX.out.1] at q1
            rw [HNX.out.2.1] at q2
            rw [HNX.out.2.2] at q3
            have QQ := Lib.hid (And.intro q1 (And.intro q2 q3))
            clear c5 hf h0 q1 q2 q3
            go_wp2_with fail
            go_region
            change Exit.then _ _ _ _ ((((w.setCells P (k * 6) (Ent.mk o t wt en at_ 1).cells)).alloc (.cells #[.int .i64 o, .int .i64 t, .int .i64 wt, .bool en, .int .i64 at_] 28)).drew)
            have HT := H.out.setAll k (Ent.mk o t wt en at_ 1)
            have HB := Fr.setCells (S := (· = P)) (g := P) (.inl rfl) (Ent.mk o t wt en at_ 1).cells (k * 6) _ (Fr.refl _ w)
            generalize w.setCells P (k * 6) (Ent.mk o t wt en at_ 1).cells = V at *
            have HT2 := Lib.hid (HT.fr (S := fun _ => False) (((Fr.refl _ _).alloc (.cells #[.int .i64 o, .int .i64 t, .int .i64 wt, .bool en, .int .i64 at_] 28)).drew) id)
            have HB2 := Lib.hid ((HB.alloc (.cells #[.int .i64 o, .int .i64 t, .int .i64 wt, .bool en, .int .i64 at_] 28)).drew)
            clear HT HB
            go_wp2
            go_ret2
            rw [QQ.out.1, QQ.out.2.1, QQ.out.2.2]
            exact ⟨rfl, HT2.out, HB2.out⟩
          · have g0 : (((e k).n : Int) == 0) = false := by simp [h0]
            rw [if_neg h0] at hf
            clear h0
            generalize ((e k).n : Int) = m at *
            go_wp2
            go_roundw
            case rel => exact ⟨k + 1, by go_num, by omega, by trivial, hf⟩
            case measure => simp [intOf]; omega
        · rw [show 60 - k = 0 by omega] at hf
          have hf2 : ff e = 60 := hf
          obtain rfl : k = 60 := by omega
          obtain ⟨q1, q2, q3⟩ := open_full E1.out hf2
          rw [HNX.out.1] at q1
          rw [HNX.out.2.1] at q2
          rw [HNX.out.2.2] at q3
          have QQ := Lib.hid (And.intro q1 (And.intro q2 q3))
          clear hf hf2 q1 q2 q3
          go_wp2
          go_ret2
          rw [QQ.out.1, QQ.out.2.1, QQ.out.2.2]
          exact ⟨rfl, H.out.fr (S := fun _ => False) ((Fr.refl _ _).alloc _) id, (Fr.refl _ _).alloc _⟩
    · have e1 : okD ⟨o, t, wt, en, at_, n⟩ = false := by simp [okD]; omega
      obtain ⟨q1, q2, q3⟩ := open_bad (e := e) e1
      rw [HNX.out.1] at q1
      rw [HNX.out.2.1] at q2
      rw [HNX.out.2.2] at q3
      have QQ := Lib.hid (And.intro q1 (And.intro q2 q3))
      clear e1 h q1 q2 q3
      go_enter Try.func11, Try.ntmps11
      go_wp2
      go_ret2
      rw [QQ.out.1, QQ.out.2.1, QQ.out.2.2]
      exact ⟨rfl, H.out.fr (S := fun _ => False) ((Fr.refl _ _).alloc _) id, (Fr.refl _ _).alloc _⟩
  · have e1 : okD ⟨o, t, wt, en, at_, n⟩ = false := by simp [okD]; omega
    obtain ⟨q1, q2, q3⟩ := open_bad (e := e) e1
    rw [HNX.out.1] at q1
    rw [HNX.out.2.1] at q2
    rw [HNX.out.2.2] at q3
    have QQ := Lib.hid (And.intro q1 (And.intro q2 q3))
    clear e1 h q1 q2 q3
    go_enter Try.func11, Try.ntmps11
    go_wp2
    go_ret2
    rw [QQ.out.1, QQ.out.2.1, QQ.out.2.2]
    exact ⟨rfl, H.out.fr (S := fun _ => False) ((Fr.refl _ _).alloc _) id, (Fr.refl _ _).alloc _⟩
end Go.Proofs.Ytjjkeemaebmcfaa
