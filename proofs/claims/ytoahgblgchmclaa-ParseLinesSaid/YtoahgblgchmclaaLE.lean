/- The program's reader in memory; contracts: rest, ended, finds, oneMore, plain, skipComment. -/
import Derived.Test.YtoahgblgchmclaaLC
import Derived.Test.YtoahgblgchmclaaLD
namespace Go.Proofs.Ytoahgblgchmclaa
open Go.RowKit
set_option linter.unusedVariables false
set_option linter.unusedSimpArgs false
/-- the reader's block: the script, the place. -/
def RM (W : World) (p : Nat) (s : ByteArray) (k : Nat) : Prop :=
  W.heap[p]? = some (.cells #[.string s, .int .i64 k] 54 (0, 0))
section
variable {W W' : World} {p : Nat} {s : ByteArray} {k : Nat}
theorem RM.cells (h : RM W p s k) : W.cell? ⟨p, 0, none⟩ = some (.string s) ∧ W.cell? ⟨p, 1, none⟩ = some (.int .i64 k) ∧ W.frozen? ⟨p, 1, none⟩ = false := by
  unfold RM at h
  refine ⟨?_, ?_, Lib.frozen_of_heap h 1⟩ <;> rw [Lib.cell_of_heap h] <;> rfl
theorem RM.setAt (h : RM W p s k) (k' : Nat) : RM (W.setCell ⟨p, 1, none⟩ (.int .i64 k')) p s k' := heap_set h 1 _
theorem RM.one (h : RM W p s k) : RM (W.setCell ⟨p, 1, none⟩ (.int .i64 ((k : Int) + 1))) p s (k + 1) := heap_set h 1 _
theorem RM.two (h : RM W p s k) : RM (W.setCell ⟨p, 1, none⟩ (.int .i64 ((k : Int) + 2))) p s (k + 2) := heap_set h 1 _
theorem RM.fr {S : Nat → Prop} (h : RM W p s k) (f : Fr S W W') (hs : ¬ S p) : RM W' p s k := (f.block p (heap_lt h) hs).trans h
theorem RM.drewN (h : RM W p s k) (n : Nat) : RM (W.drewN n) p s k := h
end
def atOf (W : World) (p : Nat) : Nat := match W.cell? ⟨p, 1, none⟩ with
  | some (.int _ n) => n.toNat
  | _ => 0
theorem RM.atOf {W : World} {p : Nat} {s : ByteArray} {k : Nat} (h : RM W p s k) : atOf W p = k := by
  unfold Go.Proofs.Ytoahgblgchmclaa.atOf
  rw [h.cells.2.1]; rfl
theorem rest_any (W : World) (p : Nat) (s : ByteArray) (k : Nat) (hk : k ≤ s.size) (hs : s.size ≤ maxLen) (h : RM W p s k) :
    Calls Try.prog 34 #[.pointer (some ⟨p, 0, none⟩)] W fun e w' => e = .returned (.string (st (s.data.toList.drop k))) ∧ RM w' p s k ∧ Fr (· = p) W w' := by
  unfold maxLen at hs
  obtain ⟨c0, c1, f1⟩ := h.cells
  have H := Lib.hid h
  clear h
  go_enter Try.func34, Try.ntmps34
  go_wp2
  go_quiet (fail)
  go_wp2
  go_ret
  exact ⟨congrArg (fun v => Ending.returned (Value.string v)) (extract_drop _ _), H.out.drewN _, (Fr.refl _ _).drewN _⟩
theorem ended_any (W : World) (p : Nat) (s : ByteArray) (k : Nat) (hs : s.size ≤ maxLen) (h : RM W p s k) :
    Calls Try.prog 20 #[.pointer (some ⟨p, 0, none⟩)] W fun e w' => e = .returned (.bool (decide (k = s.size))) ∧ RM w' p s k ∧ Fr (· = p) W w' := by
  unfold maxLen at hs
  obtain ⟨c0, c1, f1⟩ := h.cells
  have H := Lib.hid h
  clear h
  go_enter Try.func20, Try.ntmps20
  go_wp2
  go_quiet (fail)
  go_wp2
  go_ret
  exact ⟨ret_bool (by rw [Bool.eq_iff_iff]; simp; omega), H.out.drewN _, (Fr.refl _ _).drewN _⟩
theorem ended_no (W : World) (p : Nat) (s : ByteArray) (k : Nat) (hk : k < s.size) (hs : s.size ≤ maxLen) (h : RM W p s k) :
    Calls Try.prog 20 #[.pointer (some ⟨p, 0, none⟩)] W fun e w' => e = .returned (.bool false) ∧ RM w' p s k ∧ Fr (· = p) W w' := by
  have := ended_any W p s k hs h
  rwa [decide_eq_false (by omega)] at this
theorem ended_yes (W : World) (p : Nat) (s : ByteArray) (hs : s.size ≤ maxLen) (h : RM W p s s.size) :
    Calls Try.prog 20 #[.pointer (some ⟨p, 0, none⟩)] W fun e w' => e = .returned (.bool true) ∧ RM w' p s s.size ∧ Fr (· = p) W w' := by
  have := ended_any W p s s.size hs h
  rwa [decide_eq_true rfl] at this
theorem finds_any (W : World) (p : Nat) (s : ByteArray) (k : Nat) (t : Bs) (hk : k ≤ s.size) (hs : s.size ≤ maxLen) (h : RM W p s k) :
    Calls Try.prog 31 #[.pointer (some ⟨p, 0, none⟩), .string (st t)] W fun e w' => e = .returned (.bool (pre t (s.data.toList.drop k))) ∧ RM w' p s k ∧ Fr (· = p) W w' := by
  have HC := Lib.hid (rest_any W p s k hk hs h)
  have HP := Lib.hid (fun w => pre_call (s.data.toList.drop k) t _ rfl w)
  clear h
  generalize st (s.data.toList.drop k) = x at *
  generalize st t = y at *
  go_enter Try.func31, Try.ntmps31
  go_wp2_with (first | (go_at_call 34; (with_reducible refine HC.out.mono ?_); rintro e w1 ⟨rfl, hR, hF⟩) | (go_at_call 45; (with_reducible refine (HP.out _).mono ?_); rintro e w2 ⟨rfl, rfl⟩))
  go_ret
  exact ⟨rfl, hR, hF⟩
/-- what a part's reader tells, and where it stands then. -/
def erR : R → Int
  | .ok _ => 0
  | .more => 23
  | .deep _ => 17
def plR (s : ByteArray) : R → Nat
  | .ok j => j
  | .more => s.size
  | .deep k => k
def partPost (W : World) (p : Nat) (s : ByteArray) (r : R) (e : Ending) (w' : World) : Prop :=
  e = .returned (.int .i64 (erR r)) ∧ RM w' p s (plR s r) ∧ Fr (· = p) W w'
theorem oneMore_any (W : World) (p : Nat) (s : ByteArray) (k : Nat) (hk : k ≤ s.size) (hs : s.size ≤ maxLen) (h : RM W p s k) :
    Calls Try.prog 54 #[.pointer (some ⟨p, 0, none⟩)] W (partPost W p s (if k < s.size then .ok (k + 1) else .more)) := by
  have hs' := hs
  unfold maxLen at hs'
  by_cases h1 : k < s.size
  · rw [if_pos h1]
    have HE := Lib.hid (ended_no W p s k h1 hs h)
    clear h hs
    go_enter Try.func54, Try.ntmps54
    go_wp2_with (go_at_call 20; (with_reducible refine HE.out.mono ?_); rintro e w1 ⟨rfl, hR, hF⟩; obtain ⟨c0, c1, f1⟩ := hR.cells; have HR := Lib.hid hR; have HF := Lib.hid hF; clear hR hF)
    go_ret
    exact ⟨rfl, HR.out.one, HF.out.setCell (p := ⟨p, 1, none⟩) (.inl rfl) _⟩
  · rw [if_neg h1]
    obtain rfl : k = s.size := by omega
    have HE := Lib.hid (ended_yes W p s hs h)
    clear h hs
    go_enter Try.func54, Try.ntmps54
    go_wp2_with (go_at_call 20; (with_reducible refine HE.out.mono ?_); rintro e w1 ⟨rfl, hR, hF⟩)
    go_ret
    exact ⟨rfl, hR, hF⟩
theorem lift_succ (i : Nat) (x : Option Nat) : lift i (x.map (· + 1)) = lift (i + 1) x := by
  cases x with
  | none => rfl
  | some n => simp only [Option.map_some, lift]; congr 1; omega
theorem lift_succ2 (i : Nat) (x : Option Nat) : lift i (x.map (· + 2)) = lift (i + 2) x := by
  cases x with
  | none => rfl
  | some n => simp only [Option.map_some, lift]; congr 1; omega
def plRel (W : World) (p : Nat) (s : ByteArray) (F : Bs → Option Nat) (r : R) (wr : World) : Prop :=
  ∃ j, RM wr p s j ∧ Fr (· = p) W wr ∧ j ≤ s.size ∧ lift j (F (s.data.toList.drop j)) = r
set_option maxHeartbeats 2000000 in
theorem plain_any (W : World) (p : Nat) (s : ByteArray) (k : Nat) (c : UInt8) (hk : k ≤ s.size) (hs : s.size ≤ maxLen) (h : RM W p s k) :
    Calls Try.prog 55 #[.pointer (some ⟨p, 0, none⟩), .int .u8 c.toNat] W (partPost W p s (lift k (toQ c (s.data.toList.drop k)))) := by
  have hs' := hs
  unfold maxLen at hs'
  have H := Lib.hid h
  clear h
  obtain ⟨r, hr⟩ : ∃ r, lift k (toQ c (s.data.toList.drop k)) = r := ⟨_, rfl⟩
  rw [hr]
  have HR0 := Lib.hid hr
  clear hr
  go_enter Try.func55, Try.ntmps55
  go_wp2
  go_loopw [] (fun wr => plRel W p s (toQ c) r wr) (fun wr => s.size - atOf wr p)
  case atStart => exact ⟨k, H.out, Fr.refl _ _, hk, HR0.out⟩
  case round =>
    obtain ⟨j, hR, hF, hj, hr⟩ := hrel
    clear H HR0
    have HR := Lib.hid hR
    have HF := Lib.hid hF
    have HM := Lib.hid (hR.atOf)
    by_cases hjs : j < s.size
    · have HE := Lib.hid (ended_no wr p s j hjs hs hR)
      rw [at_byte hjs, toQ] at hr
      clear hR hF
      by_cases hc : s[j] = c
      · rw [if_pos hc] at hr
        have g := u8_true s[j] c hc
        clear hc
        have HV := Lib.hid hr
        clear hr
        go_wp2_with (go_at_call 20; (with_reducible refine HE.out.mono ?_); rintro e w1 ⟨rfl, hR, hF⟩; obtain ⟨c0, c1, f1⟩ := hR.cells; have hR2 := hR.one; obtain ⟨d0, d1, g1⟩ := hR2.cells; have HR2 := Lib.hid hR2; have HF2 := Lib.hid ((HF.out.trans hF).setCell (p := ⟨p, 1, none⟩) (.inl rfl) (.int .i64 ((j : Int) + 1))); clear hR hF hR2)
        go_quiet (fail)
        go_wp2
        go_ret
        rw [← HV.out]
        exact ⟨rfl, HR2.out.drewN _, HF2.out.drewN _⟩
      · rw [if_neg hc, lift_succ] at hr
        have g := u8_false s[j] c hc
        clear hc
        have HV := Lib.hid hr
        clear hr
        go_wp2_with (go_at_call 20; (with_reducible refine HE.out.mono ?_); rintro e w1 ⟨rfl, hR, hF⟩; obtain ⟨c0, c1, f1⟩ := hR.cells; have hR2 := hR.one; obtain ⟨d0, d1, g1⟩ := hR2.cells; have HR2 := Lib.hid hR2; have HF2 := Lib.hid ((HF.out.trans hF).setCell (p := ⟨p, 1, none⟩) (.inl rfl) (.int .i64 ((j : Int) + 1))); clear hR hF hR2)
        go_quiet (fail)
        go_wp2
        refine ⟨⟨j + 1, HR2.out.drewN _, HF2.out.drewN _, hjs, HV.out⟩, ?_⟩
        rw [(HR2.out.drewN _).atOf, HM.out]; omega
    · obtain rfl : j = s.size := by omega
      have HE := Lib.hid (ended_yes wr p s hs hR)
      rw [List.drop_eq_nil_of_le (by rw [size_len]; omega), toQ] at hr
      clear hR hF
      subst hr
      go_wp2_with (go_at_call 20; (with_reducible refine HE.out.mono ?_); rintro e w1 ⟨rfl, hR, hF⟩)
      go_ret
      exact ⟨rfl, hR, HF.out.trans hF⟩
end Go.Proofs.Ytoahgblgchmclaa
