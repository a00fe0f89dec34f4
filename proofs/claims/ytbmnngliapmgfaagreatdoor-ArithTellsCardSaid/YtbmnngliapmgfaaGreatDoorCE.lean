/- The document's reader: blanks. -/
import Derived.Test.YtbmnngliapmgfaaGreatDoorCD
import Derived.BigQuiet
import Derived.Deep.QuietTactic
namespace Go.Proofs.YtbmnngliapmgfaaGreatDoor
open Go.RowKit
set_option linter.unusedVariables false
set_option linter.unusedSimpArgs false
def atOf (W : World) (p : Nat) : Nat := match W.cell? ⟨p, 1, none⟩ with
  | some (.int _ n) => n.toNat
  | _ => 0
theorem RD.atOf {W : World} {p : Nat} {s : ByteArray} {k d : Nat} {gv sv : Value} {form : Bool} {err : Int} (h : RD W p s k d gv sv form err) : atOf W p = k := by
  unfold Go.Proofs.YtbmnngliapmgfaaGreatDoor.atOf
  rw [h.cells.2.1]; rfl
theorem bl_step {c : UInt8} {l r : Bs} (h : l = c :: r) (hc : c = 32 ∨ c = 9 ∨ c = 10) : trimB l = trimB r := by
  subst h
  rcases hc with rfl | rfl | rfl <;> rfl
theorem bl_stop {c : UInt8} {l r : Bs} (h : l = c :: r) (h1 : ¬ c = 32) (h2 : ¬ c = 9) (h3 : ¬ c = 10) : trimB l = l := by
  subst h
  unfold trimB
  rw [List.dropWhile_cons, if_neg]
  simp [h1, h2, h3]
def blRel (W : World) (p : Nat) (s : ByteArray) (k d : Nat) (gv sv : Value) (form : Bool) (err : Int) (wr : World) : Prop := ∃ j, RD wr p s j d gv sv form err ∧ Fr (· = p) W wr ∧ k ≤ j ∧ j ≤ s.size ∧ trimB (s.data.toList.drop j) = trimB (s.data.toList.drop k)
set_option maxHeartbeats 2000000 in
theorem rblanks_any (W : World) (p : Nat) (s : ByteArray) (k d : Nat) (gv sv : Value) (form : Bool) (err : Int) (hk : k ≤ s.size) (hs : s.size ≤ 256) (h : RD W p s k d gv sv form err) :
    Calls Tryz.prog 8 #[.pointer (some ⟨p, 0, none⟩)] W fun e w' => e = .returned (.tuple #[]) ∧ ∃ j, RD w' p s j d gv sv form err ∧ Fr (· = p) W w' ∧ k ≤ j ∧ j ≤ s.size ∧ s.data.toList.drop j = trimB (s.data.toList.drop k) := by
  have H := Lib.hid h
  clear h
  go_enter Tryz.func8, Tryz.ntmps8
  go_wp2
  go_loopw [] (fun wr => blRel W p s k d gv sv form err wr) (fun wr => s.size - atOf wr p)
  case atStart => exact ⟨k, H.out, Fr.refl _ _, Nat.le_refl _, hk, rfl⟩
  case round =>
    obtain ⟨j, hR, hF, hkj, hj, ht⟩ := hrel
    have HR := Lib.hid hR
    obtain ⟨c0, c1, c2, c3, c4, c5, c6, fz⟩ := hR.cells
    by_cases hjs : j < s.size
    · have hat := at_byte hjs
      by_cases e1 : s[j] = 32
      · have g0 : (((s[j].toNat : Int) == 32) : Bool) = true := u8_true s[j] 32 e1
        have HT := Lib.hid (bl_step hat (.inl e1))
        clear hat hR c2 c3 c4 c5 c6 e1
        go_wp2
        go_quiet (fail)
        go_wp2
        have HR2 : RD ((wr.drewN nq).setCell ⟨p, 1, none⟩ (.int .i64 ((j : Int) + 1))) p s (j + 1) d gv sv form err := RD.setAt (W := wr.drewN nq) HR.out (j + 1)
        refine ⟨⟨j + 1, HR2, (hF.drewN nq).setCell (p := ⟨p, 1, none⟩) (.inl rfl) _, by omega, by omega, HT.out.symm.trans ht⟩, ?_⟩
        rw [HR2.atOf, HR.out.atOf]; omega
      · have g0 : (((s[j].toNat : Int) == 32) : Bool) = false := u8_false s[j] 32 e1
        by_cases e2 : s[j] = 9
        · have g1 : (((s[j].toNat : Int) == 9) : Bool) = true := u8_true s[j] 9 e2
          have HT := Lib.hid (bl_step hat (.inr (.inl e2)))
          clear hat hR c2 c3 c4 c5 c6 e1 e2
          go_wp2
          go_quiet (fail)
          go_wp2
          have HR2 : RD ((wr.drewN nq).setCell ⟨p, 1, none⟩ (.int .i64 ((j : Int) + 1))) p s (j + 1) d gv sv form err := RD.setAt (W := wr.drewN nq) HR.out (j + 1)
          refine ⟨⟨j + 1, HR2, (hF.drewN nq).setCell (p := ⟨p, 1, none⟩) (.inl rfl) _, by omega, by omega, HT.out.symm.trans ht⟩, ?_⟩
          rw [HR2.atOf, HR.out.atOf]; omega
        · have g1 : (((s[j].toNat : Int) == 9) : Bool) = false := u8_false s[j] 9 e2
          by_cases e3 : s[j] = 10
          · have g2 : (((s[j].toNat : Int) == 10) : Bool) = true := u8_true s[j] 10 e3
            have HT := Lib.hid (bl_step hat (.inr (.inr e3)))
            clear hat hR c2 c3 c4 c5 c6 e1 e2 e3
            go_wp2
            go_quiet (fail)
            go_wp2
            have HR2 : RD ((wr.drewN nq).setCell ⟨p, 1, none⟩ (.int .i64 ((j : Int) + 1))) p s (j + 1) d gv sv form err := RD.setAt (W := wr.drewN nq) HR.out (j + 1)
            refine ⟨⟨j + 1, HR2, (hF.drewN nq).setCell (p := ⟨p, 1, none⟩) (.inl rfl) _, by omega, by omega, HT.out.symm.trans ht⟩, ?_⟩
            rw [HR2.atOf, HR.out.atOf]; omega
          · have g2 : (((s[j].toNat : Int) == 10) : Bool) = false := u8_false s[j] 10 e3
            have HT := Lib.hid (bl_stop hat e1 e2 e3)
            clear hat hR c2 c3 c4 c5 c6 e1 e2 e3
            go_wp2
            go_quiet (fail)
            go_wp2
            refine bodyPost_end (results_none rfl _ _ _) rfl ?_
            exact ⟨rfl, j, HR.out, hF.drewN _, hkj, hj, HT.out.symm.trans ht⟩
    · have HT := Lib.hid (show trimB (s.data.toList.drop j) = s.data.toList.drop j by
        rw [List.drop_eq_nil_of_le (by rw [size_len]; omega)]; rfl)
      clear hR c2 c3 c4 c5 c6
      go_wp2
      go_quiet (fail)
      go_wp2
      refine bodyPost_end (results_none rfl _ _ _) rfl ?_
      exact ⟨rfl, j, HR.out, hF.drewN _, hkj, hj, HT.out.symm.trans ht⟩
end Go.Proofs.YtbmnngliapmgfaaGreatDoor
