/- The document's reader: choice. -/
import Derived.Test.YtbmnngliapmgfaaGreatDoorCQ
namespace Go.Proofs.YtbmnngliapmgfaaGreatDoor
open Go.RowKit
set_option linter.unusedVariables false
set_option linter.unusedSimpArgs false
theorem RD.setDeepI {W : World} {p : Nat} {s : ByteArray} {k d : Nat} {gv sv : Value} {form : Bool} {err : Int} (h : RD W p s k d gv sv form err) (z : Int) (d' : Nat) (hz : z = (d' : Int)) : RD (W.setCell ⟨p, 2, none⟩ (.int .i64 z)) p s k d' gv sv form err := by
  subst hz; exact h.setDeep d'
theorem RD.setAtI {W : World} {p : Nat} {s : ByteArray} {k d : Nat} {gv sv : Value} {form : Bool} {err : Int} (h : RD W p s k d gv sv form err) (z : Int) (d' : Nat) (hz : z = (d' : Int)) : RD (W.setCell ⟨p, 1, none⟩ (.int .i64 z)) p s d' d gv sv form err := by
  subst hz; exact h.setAt d'
/-- a contract of one of the reader's four functions, where the form is not yet wrong. -/
abbrev CC4 (fn : Nat) (B p : Nat) (s : ByteArray) (gv : Value) (g : List (Bs × Bs)) (d : Nat) (K : Kd) : Prop :=
  ∀ (W : World) (k : Nat) (sv : Value) (o : Own) (err : Int) (c : Bool), IV W B p s k d gv g sv o false err →
    Calls Tryz.prog fn #[.pointer (some ⟨p, 0, none⟩), .bool c] W (rdPost W B p s k d gv g o err c K)
abbrev CCr (B p : Nat) (s : ByteArray) (gv : Value) (g : List (Bs × Bs)) (d : Nat) (n : Int) (K : Kd) : Prop :=
  ∀ (W : World) (k : Nat) (sv : Value) (o : Own) (err : Int) (c : Bool), IV W B p s k d gv g sv o false err →
    Calls Tryz.prog 28 #[.pointer (some ⟨p, 0, none⟩), .int .i64 n, .bool c] W (rdPost W B p s k d gv g o err c K)
/-- the next token, where a sign was looked for. -/
theorem head_sg {x : Bs} (hx : trimB x = x) (t : Bs) (ht : t ≠ []) (hs : isSgn t = true) : (tokX x).head? = some t ↔ sgR x = t := by
  rcases tk_any hx with ⟨h, e, s, w⟩ | ⟨h, e, s, w, l⟩ | ⟨s, h, e, l⟩ | ⟨s, h, c, v, e, l⟩ | ⟨s, h, v, e, l⟩
  · rw [e, s]; constructor
    · intro h; cases h
    · intro h; exact absurd h.symm ht
  · rw [e]; simp
  · rw [e, s]; constructor
    · intro h2; simp at h2; rw [h2, (sgn_head t hs).2] at h; cases h
    · intro h; exact absurd h.symm ht
  · rw [e, s]; constructor
    · intro h2; simp at h2; rw [h2, (sgn_head t hs).1] at c; cases c
    · intro h; exact absurd h.symm ht
  · rw [e, s]; constructor
    · intro h2; simp at h2; rw [← h2] at hs; exact absurd hs (by decide)
    · intro h; exact absurd h.symm ht
theorem tail_sg {x : Bs} (hx : trimB x = x) (h : sgR x ≠ []) : tokX x = sgR x :: tokX (x.drop (sgR x).length) := by
  rcases tk_any hx with ⟨_, _, s, _⟩ | ⟨_, e, _, _, _⟩ | ⟨s, _, _, _⟩ | ⟨s, _, _, _, _, _⟩ | ⟨s, _, _, _, _⟩
  · exact absurd s h
  · exact e
  · exact absurd s h
  · exact absurd s h
  · exact absurd s h
theorem rtake_63 (W : World) (p : Nat) (s : ByteArray) (k d : Nat) (gv sv : Value) (form : Bool) (err : Int) (hk : k ≤ s.size) (hs : s.size ≤ 256) (h : RD W p s k d gv sv form err) :
    Calls Tryz.prog 29 #[.pointer (some ⟨p, 0, none⟩), .string ⟨#[63]⟩] W (takePost W p s k d gv sv form err [63]) := by
  have := rtake_any W p s k d gv sv form err [63] (by decide) hk hs h
  rwa [show st [63] = (⟨#[63]⟩ : ByteArray) from rfl] at this
theorem rtake_58 (W : World) (p : Nat) (s : ByteArray) (k d : Nat) (gv sv : Value) (form : Bool) (err : Int) (hk : k ≤ s.size) (hs : s.size ≤ 256) (h : RD W p s k d gv sv form err) :
    Calls Tryz.prog 29 #[.pointer (some ⟨p, 0, none⟩), .string ⟨#[58]⟩] W (takePost W p s k d gv sv form err [58]) := by
  have := rtake_any W p s k d gv sv form err [58] (by decide) hk hs h
  rwa [show st [58] = (⟨#[58]⟩ : ByteArray) from rfl] at this
theorem rtake_41 (W : World) (p : Nat) (s : ByteArray) (k d : Nat) (gv sv : Value) (form : Bool) (err : Int) (hk : k ≤ s.size) (hs : s.size ≤ 256) (h : RD W p s k d gv sv form err) :
    Calls Tryz.prog 29 #[.pointer (some ⟨p, 0, none⟩), .string ⟨#[41]⟩] W (takePost W p s k d gv sv form err [41]) := by
  have := rtake_any W p s k d gv sv form err [41] (by decide) hk hs h
  rwa [show st [41] = (⟨#[41]⟩ : ByteArray) from rfl] at this
/-- a sign was taken, or not. -/
def Took (s : ByteArray) (k j : Nat) (t : Bs) (b : Bool) (j' : Nat) : Prop :=
  k ≤ j' ∧ j' ≤ s.size ∧ ((b = true ∧ tokX (s.data.toList.drop k) = t :: tokX (s.data.toList.drop j')) ∨ (b = false ∧ (tokX (s.data.toList.drop k)).head? ≠ some t ∧ tokX (s.data.toList.drop j') = tokX (s.data.toList.drop k)))
theorem took_of {s : ByteArray} {k j : Nat} {t : Bs} (ht : t ≠ []) (hg : isSgn t = true) (hk : k ≤ j) (hj : j ≤ s.size) (h : s.data.toList.drop j = trimB (s.data.toList.drop k)) :
    Took s k j t (decide (sgR (s.data.toList.drop j) = t)) (if sgR (s.data.toList.drop j) = t then j + t.length else j) := by
  have hx : trimB (s.data.toList.drop j) = s.data.toList.drop j := by rw [h, trim_trim]
  have hX : tokX (s.data.toList.drop k) = tokX (s.data.toList.drop j) := by rw [h, tokX_trim]
  by_cases e : sgR (s.data.toList.drop j) = t
  · have h9 := (sg_head (x := s.data.toList.drop j) (by rw [e]; exact ht)).2.2.2.2.2.2.2.2
    have hL : (s.data.toList.drop j).length = s.size - j := by rw [List.length_drop, size_len]
    rw [hL, e] at h9
    rw [if_pos e]
    refine ⟨by omega, by omega, .inl ⟨by simp [e], ?_⟩⟩
    have := tail_sg hx (by rw [e]; exact ht)
    rw [e, List.drop_drop] at this
    rw [hX, this]
  · rw [if_neg e]
    refine ⟨hk, hj, .inr ⟨by simp [e], ?_, hX.symm⟩⟩
    rw [hX]
    exact fun q => e ((head_sg hx t ht hg).1 q)
def tookPost (W : World) (p : Nat) (s : ByteArray) (k d : Nat) (gv sv : Value) (form : Bool) (err : Int) (t : Bs) (e : Ending) (w' : World) : Prop :=
  ∃ b j, e = .returned (.bool b) ∧ RD w' p s j d gv sv form err ∧ Fr (· = p) W w' ∧ k ≤ j ∧ j ≤ s.size ∧ ((b = true ∧ tokX (s.data.toList.drop k) = t :: tokX (s.data.toList.drop j)) ∨ (b = false ∧ (tokX (s.data.toList.drop k)).head? ≠ some t ∧ tokX (s.data.toList.drop j) = tokX (s.data.toList.drop k)))
theorem rtook_63 (W : World) (p : Nat) (s : ByteArray) (k d : Nat) (gv sv : Value) (form : Bool) (err : Int) (hk : k ≤ s.size) (hs : s.size ≤ 256) (h : RD W p s k d gv sv form err) :
    Calls Tryz.prog 29 #[.pointer (some ⟨p, 0, none⟩), .string ⟨#[63]⟩] W (tookPost W p s k d gv sv form err [63]) :=
  (rtake_63 W p s k d gv sv form err hk hs h).mono fun e w' ⟨j, h1, h2, h3, h4, h5, h6⟩ => by
    obtain ⟨t1, t2, t3⟩ := took_of (t := [63]) (by decide) (by decide) h4 h5 h6
    exact ⟨_, _, h1, h2, h3, t1, t2, t3⟩
theorem rtook_58 (W : World) (p : Nat) (s : ByteArray) (k d : Nat) (gv sv : Value) (form : Bool) (err : Int) (hk : k ≤ s.size) (hs : s.size ≤ 256) (h : RD W p s k d gv sv form err) :
    Calls Tryz.prog 29 #[.pointer (some ⟨p, 0, none⟩), .string ⟨#[58]⟩] W (tookPost W p s k d gv sv form err [58]) :=
  (rtake_58 W p s k d gv sv form err hk hs h).mono fun e w' ⟨j, h1, h2, h3, h4, h5, h6⟩ => by
    obtain ⟨t1, t2, t3⟩ := took_of (t := [58]) (by decide) (by decide) h4 h5 h6
    exact ⟨_, _, h1, h2, h3, t1, t2, t3⟩
theorem rtook_41 (W : World) (p : Nat) (s : ByteArray) (k d : Nat) (gv sv : Value) (form : Bool) (err : Int) (hk : k ≤ s.size) (hs : s.size ≤ 256) (h : RD W p s k d gv sv form err) :
    Calls Tryz.prog 29 #[.pointer (some ⟨p, 0, none⟩), .string ⟨#[41]⟩] W (tookPost W p s k d gv sv form err [41]) :=
  (rtake_41 W p s k d gv sv form err hk hs h).mono fun e w' ⟨j, h1, h2, h3, h4, h5, h6⟩ => by
    obtain ⟨t1, t2, t3⟩ := took_of (t := [41]) (by decide) (by decide) h4 h5 h6
    exact ⟨_, _, h1, h2, h3, t1, t2, t3⟩
set_option maxHeartbeats 8000000 in
theorem rchoice_of {B p : Nat} {s : ByteArray} {gv : Value} {g : List (Bs × Bs)} {d : Nat} (hs : s.size ≤ 256) (hd : d ≤ 24)
    (hrow : CCr B p s gv g (d + 1) 0 (.lev 0)) (hset : CC4 9 B p s gv g (d + 1) .asg) (hcho : CC4 19 B p s gv g (d + 1) .cho) : CC4 19 B p s gv g d .cho := by
  intro W k sv o err c hI
  have H0 := Lib.hid hI
  have HS := Lib.hid hset
  have HC := Lib.hid hcho
  have HRW := Lib.hid hrow
  have HO := Lib.hid (ropen_any W p s k d gv sv false err (by omega) hI.1)
  clear hI hset hcho hrow
  go_enter Tryz.func19, Tryz.ntmps19
  go_upto_region 2 with (first
    | (go_at_call 12; (with_reducible refine HO.out.mono ?_); rintro e w1 ⟨rfl, hR, hF⟩))
  rw [show (false || decide (24 < d)) = false by simp; omega] at hR
  obtain ⟨c0, c1, c2, c3, c4, c5, c6, fz⟩ := hR.cells
  have HI1 := Lib.hid (H0.out.step hF hR H0.out.2.2.2.2.2.2.1 (Nat.le_refl _))
  have HF1 := Lib.hid hF
  clear hR hF c0 c1 c2 c3 c4 c6 fz HO
  go_upto_region 5 with (first
    | (go_at_call 28; (with_reducible refine (HRW.out _ _ _ _ _ _ HI1.out).mono ?_); rintro e w2 ⟨v, k2, d2, sv2, o2, form2, err2, R1, rfl, hv, hI2, hF2, hk2, ho2, hP1, hR1⟩))
  have HV := Lib.hid hv
  have HI2 := Lib.hid hI2
  have HF2 := Lib.hid hF2
  have HN2 := Lib.hid (And.intro hk2 ho2)
  have HP1 := Lib.hid hP1
  have hk2s := hI2.2.2.2.2.2.2.1
  have HT := Lib.hid (rtook_63 w2 p s k2 d2 gv sv2 form2 err2 hk2s hs hI2.1)
  clear hv hI2 hF2 hk2 ho2 hP1
  go_upto_region 6 with (first
    | (go_at_call 29; (with_reducible refine HT.out.mono ?_); rintro e w3 ⟨b, j, rfl, hR, hF, hkj, hj, hb⟩))
  have HB := Lib.hid hb
  have HI3 := Lib.hid (HI2.out.step hF hR hj hkj)
  have HF3 := Lib.hid hF
  clear HT hb hR hF
  rcases R1 with _ | ⟨n1, r1⟩
  · obtain ⟨rfl, hd2, hd2'⟩ := hR1
    obtain ⟨dd, rfl⟩ : ∃ dd, d2 = dd + 1 := ⟨d2 - 1, by omega⟩
    cases b with
    | false =>
      obtain ⟨c0, c1, c2, c3, c4, c5, c6, fz⟩ := HI3.out.1.cells
      have f2 := fz 2
      clear c0 c1 c3 c4 c5 c6 fz
      go_wp2
      go_ret
      exact ⟨v, j, dd, sv2, o2, true, err2, none, rfl, HV.out, HI3.out.step (Fr.one _ _ _ _) (HI3.out.1.setDeepI _ dd (by omega)) hj (Nat.le_refl _), ((HF1.out.up.trans HF2.out).trans HF3.out.up).trans (Fr.one _ _ _ _).up, by have := HN2.out; omega, by have := HN2.out; omega, PR.cho_none HP1.out, rfl, by omega, by omega⟩
    | true =>
      have hcs : (c = true ∧ v = 0) ∨ (c = true ∧ ¬ v = 0) ∨ (c = false ∧ v = 0) ∨ (c = false ∧ ¬ v = 0) := by cases c <;> simp <;> omega
      have HSO := Lib.hid (fun c' => rsets_off w3 p s j (dd + 1) gv sv2 true err2 c' (by omega) (by rfl) HI3.out.1)
      rcases hcs with ⟨rfl, rfl⟩ | ⟨rfl, hv0⟩ | ⟨rfl, rfl⟩ | ⟨rfl, hv0⟩
      · go_upto_region 8 with (first
          | (go_at_call 9; (with_reducible refine (HSO.out _).mono ?_); rintro e w4 ⟨rfl, hR, hF⟩))
        have HI4 := Lib.hid (HI3.out.step hF hR hj (Nat.le_refl _))
        have HF4 := Lib.hid hF
        clear hR hF
        have HT2 := Lib.hid (rtook_58 w4 p s j (dd + 1 + 1) gv sv2 true err2 HI4.out.2.2.2.2.2.2.1 hs HI4.out.1)
        go_upto_region 9 with (first
          | (go_at_call 29; (with_reducible refine HT2.out.mono ?_); rintro e w5 ⟨b5, j5, rfl, hR, hF, hkj5, hj5, hb⟩))
        have HB5 := Lib.hid hb
        have HI5 := Lib.hid (HI4.out.step hF hR hj5 hkj5)
        have HF5 := Lib.hid hF
        clear HT2 hb hR hF
        cases b5 with
        | false =>
          obtain ⟨c0, c1, c2, c3, c4, c5, c6, fz⟩ := HI5.out.1.cells
          have f5 := fz 5
          clear c0 c1 c2 c3 c4 c6 fz
          go_upto_region 11 with (fail)
          have HI6 := Lib.hid (HI5.out.step (Fr.one _ p 5 (.bool true)) (HI5.out.1.setForm true) hj5 (Nat.le_refl _))
          have HCO := Lib.hid (fun c' => rchoice_off _ p s j5 (dd + 1 + 1) gv sv2 true err2 c' (by omega) (by rfl) HI6.out.1)
          go_upto_region 15 with (first
            | (go_at_call 19; (with_reducible refine (HCO.out _).mono ?_); rintro e w7 ⟨rfl, hR, hF⟩))
          obtain ⟨c0, c1, c2, c3, c4, c5, c6, fz⟩ := hR.cells
          have f2 := fz 2
          have HI7 := Lib.hid (HI6.out.step hF hR hj5 (Nat.le_refl _))
          have HF7 := Lib.hid hF
          clear hR hF c0 c1 c3 c4 c5 c6 fz HCO
          go_wp2
          go_ret
          exact ⟨_, j5, (dd + 1 + 1), sv2, o2, true, err2, none, rfl, by first | exact HV.out | exact HVA.out | exact ⟨by decide, by decide⟩, HI7.out.step (Fr.one _ _ _ _) (HI7.out.1.setDeepI _ ((dd + 1 + 1)) (by omega)) hj5 (Nat.le_refl _), ((((((HF1.out.up.trans HF2.out).trans HF3.out.up).trans HF4.out.up).trans HF5.out.up).trans (Fr.one _ p 5 (.bool true)).up).trans HF7.out.up).trans (Fr.one _ _ _ _).up, by have := HN2.out; omega, by have := HN2.out; omega, PR.cho_none HP1.out, rfl, by omega, by omega⟩
        | true =>
          have HCO := Lib.hid (fun c' => rchoice_off _ p s j5 (dd + 1 + 1) gv sv2 true err2 c' (by omega) (by rfl) HI5.out.1)
          go_upto_region 15 with (first
            | (go_at_call 19; (with_reducible refine (HCO.out _).mono ?_); rintro e w7 ⟨rfl, hR, hF⟩))
          obtain ⟨c0, c1, c2, c3, c4, c5, c6, fz⟩ := hR.cells
          have f2 := fz 2
          have HI7 := Lib.hid (HI5.out.step hF hR hj5 (Nat.le_refl _))
          have HF7 := Lib.hid hF
          clear hR hF c0 c1 c3 c4 c5 c6 fz HCO
          go_wp2
          go_ret
          exact ⟨_, j5, (dd + 1 + 1), sv2, o2, true, err2, none, rfl, by first | exact HV.out | exact HVA.out | exact ⟨by decide, by decide⟩, HI7.out.step (Fr.one _ _ _ _) (HI7.out.1.setDeepI _ ((dd + 1 + 1)) (by omega)) hj5 (Nat.le_refl _), (((((HF1.out.up.trans HF2.out).trans HF3.out.up).trans HF4.out.up).trans HF5.out.up).trans HF7.out.up).trans (Fr.one _ _ _ _).up, by have := HN2.out; omega, by have := HN2.out; omega, PR.cho_none HP1.out, rfl, by omega, by omega⟩
      · go_upto_region 8 with (first
          | (go_at_call 9; (with_reducible refine (HSO.out _).mono ?_); rintro e w4 ⟨rfl, hR, hF⟩))
        have HI4 := Lib.hid (HI3.out.step hF hR hj (Nat.le_refl _))
        have HF4 := Lib.hid hF
        clear hR hF
        have HT2 := Lib.hid (rtook_58 w4 p s j (dd + 1 + 1) gv sv2 true err2 HI4.out.2.2.2.2.2.2.1 hs HI4.out.1)
        go_upto_region 9 with (first
          | (go_at_call 29; (with_reducible refine HT2.out.mono ?_); rintro e w5 ⟨b5, j5, rfl, hR, hF, hkj5, hj5, hb⟩))
        have HB5 := Lib.hid hb
        have HI5 := Lib.hid (HI4.out.step hF hR hj5 hkj5)
        have HF5 := Lib.hid hF
        clear HT2 hb hR hF
        cases b5 with
        | false =>
          obtain ⟨c0, c1, c2, c3, c4, c5, c6, fz⟩ := HI5.out.1.cells
          have f5 := fz 5
          clear c0 c1 c2 c3 c4 c6 fz
          go_upto_region 11 with (fail)
          have HI6 := Lib.hid (HI5.out.step (Fr.one _ p 5 (.bool true)) (HI5.out.1.setForm true) hj5 (Nat.le_refl _))
          have HCO := Lib.hid (fun c' => rchoice_off _ p s j5 (dd + 1 + 1) gv sv2 true err2 c' (by omega) (by rfl) HI6.out.1)
          go_upto_region 15 with (first
            | (go_at_call 19; (with_reducible refine (HCO.out _).mono ?_); rintro e w7 ⟨rfl, hR, hF⟩))
          obtain ⟨c0, c1, c2, c3, c4, c5, c6, fz⟩ := hR.cells
          have f2 := fz 2
          have HI7 := Lib.hid (HI6.out.step hF hR hj5 (Nat.le_refl _))
          have HF7 := Lib.hid hF
          clear hR hF c0 c1 c3 c4 c5 c6 fz HCO
          go_wp2
          go_ret
          exact ⟨_, j5, (dd + 1 + 1), sv2, o2, true, err2, none, rfl, by first | exact HV.out | exact HVA.out | exact ⟨by decide, by decide⟩, HI7.out.step (Fr.one _ _ _ _) (HI7.out.1.setDeepI _ ((dd + 1 + 1)) (by omega)) hj5 (Nat.le_refl _), ((((((HF1.out.up.trans HF2.out).trans HF3.out.up).trans HF4.out.up).trans HF5.out.up).trans (Fr.one _ p 5 (.bool true)).up).trans HF7.out.up).trans (Fr.one _ _ _ _).up, by have := HN2.out; omega, by have := HN2.out; omega, PR.cho_none HP1.out, rfl, by omega, by omega⟩
        | true =>
          have HCO := Lib.hid (fun c' => rchoice_off _ p s j5 (dd + 1 + 1) gv sv2 true err2 c' (by omega) (by rfl) HI5.out.1)
          go_upto_region 15 with (first
            | (go_at_call 19; (with_reducible refine (HCO.out _).mono ?_); rintro e w7 ⟨rfl, hR, hF⟩))
          obtain ⟨c0, c1, c2, c3, c4, c5, c6, fz⟩ := hR.cells
          have f2 := fz 2
          have HI7 := Lib.hid (HI5.out.step hF hR hj5 (Nat.le_refl _))
          have HF7 := Lib.hid hF
          clear hR hF c0 c1 c3 c4 c5 c6 fz HCO
          go_wp2
          go_ret
          exact ⟨_, j5, (dd + 1 + 1), sv2, o2, true, err2, none, rfl, by first | exact HV.out | exact HVA.out | exact ⟨by decide, by decide⟩, HI7.out.step (Fr.one _ _ _ _) (HI7.out.1.setDeepI _ ((dd + 1 + 1)) (by omega)) hj5 (Nat.le_refl _), (((((HF1.out.up.trans HF2.out).trans HF3.out.up).trans HF4.out.up).trans HF5.out.up).trans HF7.out.up).trans (Fr.one _ _ _ _).up, by have := HN2.out; omega, by have := HN2.out; omega, PR.cho_none HP1.out, rfl, by omega, by omega⟩
      · go_upto_region 8 with (first
          | (go_at_call 9; (with_reducible refine (HSO.out _).mono ?_); rintro e w4 ⟨rfl, hR, hF⟩))
        have HI4 := Lib.hid (HI3.out.step hF hR hj (Nat.le_refl _))
        have HF4 := Lib.hid hF
        clear hR hF
        have HT2 := Lib.hid (rtook_58 w4 p s j (dd + 1 + 1) gv sv2 true err2 HI4.out.2.2.2.2.2.2.1 hs HI4.out.1)
        go_upto_region 9 with (first
          | (go_at_call 29; (with_reducible refine HT2.out.mono ?_); rintro e w5 ⟨b5, j5, rfl, hR, hF, hkj5, hj5, hb⟩))
        have HB5 := Lib.hid hb
        have HI5 := Lib.hid (HI4.out.step hF hR hj5 hkj5)
        have HF5 := Lib.hid hF
        clear HT2 hb hR hF
        cases b5 with
        | false =>
          obtain ⟨c0, c1, c2, c3, c4, c5, c6, fz⟩ := HI5.out.1.cells
          have f5 := fz 5
          clear c0 c1 c2 c3 c4 c6 fz
          go_upto_region 11 with (fail)
          have HI6 := Lib.hid (HI5.out.step (Fr.one _ p 5 (.bool true)) (HI5.out.1.setForm true) hj5 (Nat.le_refl _))
          have HCO := Lib.hid (fun c' => rchoice_off _ p s j5 (dd + 1 + 1) gv sv2 true err2 c' (by omega) (by rfl) HI6.out.1)
          go_upto_region 15 with (first
            | (go_at_call 19; (with_reducible refine (HCO.out _).mono ?_); rintro e w7 ⟨rfl, hR, hF⟩))
          obtain ⟨c0, c1, c2, c3, c4, c5, c6, fz⟩ := hR.cells
          have f2 := fz 2
          have HI7 := Lib.hid (HI6.out.step hF hR hj5 (Nat.le_refl _))
          have HF7 := Lib.hid hF
          clear hR hF c0 c1 c3 c4 c5 c6 fz HCO
          go_wp2
          go_ret
          exact ⟨_, j5, (dd + 1 + 1), sv2, o2, true, err2, none, rfl, by first | exact HV.out | exact HVA.out | exact ⟨by decide, by decide⟩, HI7.out.step (Fr.one _ _ _ _) (HI7.out.1.setDeepI _ ((dd + 1 + 1)) (by omega)) hj5 (Nat.le_refl _), ((((((HF1.out.up.trans HF2.out).trans HF3.out.up).trans HF4.out.up).trans HF5.out.up).trans (Fr.one _ p 5 (.bool true)).up).trans HF7.out.up).trans (Fr.one _ _ _ _).up, by have := HN2.out; omega, by have := HN2.out; omega, PR.cho_none HP1.out, rfl, by omega, by omega⟩
        | true =>
          have HCO := Lib.hid (fun c' => rchoice_off _ p s j5 (dd + 1 + 1) gv sv2 true err2 c' (by omega) (by rfl) HI5.out.1)
          go_upto_region 15 with (first
            | (go_at_call 19; (with_reducible refine (HCO.out _).mono ?_); rintro e w7 ⟨rfl, hR, hF⟩))
          obtain ⟨c0, c1, c2, c3, c4, c5, c6, fz⟩ := hR.cells
          have f2 := fz 2
          have HI7 := Lib.hid (HI5.out.step hF hR hj5 (Nat.le_refl _))
          have HF7 := Lib.hid hF
          clear hR hF c0 c1 c3 c4 c5 c6 fz HCO
          go_wp2
          go_ret
          exact ⟨_, j5, (dd + 1 + 1), sv2, o2, true, err2, none, rfl, by first | exact HV.out | exact HVA.out | exact ⟨by decide, by decide⟩, HI7.out.step (Fr.one _ _ _ _) (HI7.out.1.setDeepI _ ((dd + 1 + 1)) (by omega)) hj5 (Nat.le_refl _), (((((HF1.out.up.trans HF2.out).trans HF3.out.up).trans HF4.out.up).trans HF5.out.up).trans HF7.out.up).trans (Fr.one _ _ _ _).up, by have := HN2.out; omega, by have := HN2.out; omega, PR.cho_none HP1.out, rfl, by omega, by omega⟩
      · go_upto_region 8 with (first
          | (go_at_call 9; (with_reducible refine (HSO.out _).mono ?_); rintro e w4 ⟨rfl, hR, hF⟩))
        have HI4 := Lib.hid (HI3.out.step hF hR hj (Nat.le_refl _))
        have HF4 := Lib.hid hF
        clear hR hF
        have HT2 := Lib.hid (rtook_58 w4 p s j (dd + 1 + 1) gv sv2 true err2 HI4.out.2.2.2.2.2.2.1 hs HI4.out.1)
        go_upto_region 9 with (first
          | (go_at_call 29; (with_reducible refine HT2.out.mono ?_); rintro e w5 ⟨b5, j5, rfl, hR, hF, hkj5, hj5, hb⟩))
        have HB5 := Lib.hid hb
        have HI5 := Lib.hid (HI4.out.step hF hR hj5 hkj5)
        have HF5 := Lib.hid hF
        clear HT2 hb hR hF
        cases b5 with
        | false =>
          obtain ⟨c0, c1, c2, c3, c4, c5, c6, fz⟩ := HI5.out.1.cells
          have f5 := fz 5
          clear c0 c1 c2 c3 c4 c6 fz
          go_upto_region 11 with (fail)
          have HI6 := Lib.hid (HI5.out.step (Fr.one _ p 5 (.bool true)) (HI5.out.1.setForm true) hj5 (Nat.le_refl _))
          have HCO := Lib.hid (fun c' => rchoice_off _ p s j5 (dd + 1 + 1) gv sv2 true err2 c' (by omega) (by rfl) HI6.out.1)
          go_upto_region 15 with (first
            | (go_at_call 19; (with_reducible refine (HCO.out _).mono ?_); rintro e w7 ⟨rfl, hR, hF⟩))
          obtain ⟨c0, c1, c2, c3, c4, c5, c6, fz⟩ := hR.cells
          have f2 := fz 2
          have HI7 := Lib.hid (HI6.out.step hF hR hj5 (Nat.le_refl _))
          have HF7 := Lib.hid hF
          clear hR hF c0 c1 c3 c4 c5 c6 fz HCO
          go_wp2
          go_ret
          exact ⟨_, j5, (dd + 1 + 1), sv2, o2, true, err2, none, rfl, by first | exact HV.out | exact HVA.out | exact ⟨by decide, by decide⟩, HI7.out.step (Fr.one _ _ _ _) (HI7.out.1.setDeepI _ ((dd + 1 + 1)) (by omega)) hj5 (Nat.le_refl _), ((((((HF1.out.up.trans HF2.out).trans HF3.out.up).trans HF4.out.up).trans HF5.out.up).trans (Fr.one _ p 5 (.bool true)).up).trans HF7.out.up).trans (Fr.one _ _ _ _).up, by have := HN2.out; omega, by have := HN2.out; omega, PR.cho_none HP1.out, rfl, by omega, by omega⟩
        | true =>
          have HCO := Lib.hid (fun c' => rchoice_off _ p s j5 (dd + 1 + 1) gv sv2 true err2 c' (by omega) (by rfl) HI5.out.1)
          go_upto_region 15 with (first
            | (go_at_call 19; (with_reducible refine (HCO.out _).mono ?_); rintro e w7 ⟨rfl, hR, hF⟩))
          obtain ⟨c0, c1, c2, c3, c4, c5, c6, fz⟩ := hR.cells
          have f2 := fz 2
          have HI7 := Lib.hid (HI5.out.step hF hR hj5 (Nat.le_refl _))
          have HF7 := Lib.hid hF
          clear hR hF c0 c1 c3 c4 c5 c6 fz HCO
          go_wp2
          go_ret
          exact ⟨_, j5, (dd + 1 + 1), sv2, o2, true, err2, none, rfl, by first | exact HV.out | exact HVA.out | exact ⟨by decide, by decide⟩, HI7.out.step (Fr.one _ _ _ _) (HI7.out.1.setDeepI _ ((dd + 1 + 1)) (by omega)) hj5 (Nat.le_refl _), (((((HF1.out.up.trans HF2.out).trans HF3.out.up).trans HF4.out.up).trans HF5.out.up).trans HF7.out.up).trans (Fr.one _ _ _ _).up, by have := HN2.out; omega, by have := HN2.out; omega, PR.cho_none HP1.out, rfl, by omega, by omega⟩
  · obtain ⟨rfl, rfl, hr1, hev1⟩ := hR1
    have HE1 := Lib.hid hev1
    have Hr1 := Lib.hid hr1
    clear hr1 hev1
    cases b with
    | false =>
      obtain ⟨c0, c1, c2, c3, c4, c5, c6, fz⟩ := HI3.out.1.cells
      have f2 := fz 2
      clear c0 c1 c3 c4 c5 c6 fz
      go_wp2
      go_ret
      refine ⟨v, j, d, sv2, o2, false, err2, some (n1, r1), rfl, HV.out, HI3.out.step (Fr.one _ _ _ _) (HI3.out.1.setDeepI _ d (by omega)) hj (Nat.le_refl _), ((HF1.out.up.trans HF2.out).trans HF3.out.up).trans (Fr.one _ _ _ _).up, by have := HN2.out; omega, by have := HN2.out; omega, ?_, rfl, rfl, ?_, HE1.out⟩
      all_goals
        obtain ⟨q, _⟩ | ⟨_, q1, q2⟩ := HB.out
        · cases q
      · exact PR.cho_one (by omega) HP1.out (by rw [← Hr1.out]; exact q1)
      · rw [q2, Hr1.out]
    | true =>
      have hcs : (c = true ∧ v = 0) ∨ (c = true ∧ ¬ v = 0) ∨ (c = false ∧ v = 0) ∨ (c = false ∧ ¬ v = 0) := by cases c <;> simp <;> omega
      obtain rfl : r1 = [63] :: tokX (s.data.toList.drop j) := by
        obtain ⟨_, q⟩ | ⟨q, _⟩ := HB.out
        · rw [← Hr1.out, q]
        · cases q
      rcases hcs with ⟨rfl, rfl⟩ | ⟨rfl, hv0⟩ | ⟨rfl, rfl⟩ | ⟨rfl, hv0⟩
      · go_upto_region 8 with (first
          | (go_at_call 9; (with_reducible refine (HS.out _ _ _ _ _ _ HI3.out).mono ?_); rintro e w4 ⟨va, k4, d4, sv4, o4, form4, err4, R2, rfl, hva, hI4, hF4, hk4, ho4, hP2, hR2⟩))
        have HVA := Lib.hid hva
        have HI4 := Lib.hid hI4
        have HF4 := Lib.hid hF4
        have HP2 := Lib.hid hP2
        clear hva hI4 hF4 hP2
        have HT2 := Lib.hid (rtook_58 w4 p s k4 d4 gv sv4 form4 err4 HI4.out.2.2.2.2.2.2.1 hs HI4.out.1)
        go_upto_region 9 with (first
          | (go_at_call 29; (with_reducible refine HT2.out.mono ?_); rintro e w5 ⟨b5, j5, rfl, hR, hF, hkj5, hj5, hb⟩))
        have HB5 := Lib.hid hb
        have HI5 := Lib.hid (HI4.out.step hF hR hj5 hkj5)
        have HF5 := Lib.hid hF
        clear HT2 hb hR hF
        rcases R2 with _ | ⟨y, r2⟩
        · obtain ⟨rfl, hd4, hd4'⟩ := hR2
          cases b5 with
          | false =>
            obtain ⟨c0, c1, c2, c3, c4, c5, c6, fz⟩ := HI5.out.1.cells
            have f5 := fz 5
            clear c0 c1 c2 c3 c4 c6 fz
            go_upto_region 11 with (fail)
            have HI6 := Lib.hid (HI5.out.step (Fr.one _ p 5 (.bool true)) (HI5.out.1.setForm true) hj5 (Nat.le_refl _))
            have HCO := Lib.hid (fun c' => rchoice_off _ p s j5 d4 gv sv4 true err4 c' (by omega) (by rfl) HI6.out.1)
            go_upto_region 15 with (first
              | (go_at_call 19; (with_reducible refine (HCO.out _).mono ?_); rintro e w7 ⟨rfl, hR, hF⟩))
            obtain ⟨c0, c1, c2, c3, c4, c5, c6, fz⟩ := hR.cells
            have f2 := fz 2
            have HI7 := Lib.hid (HI6.out.step hF hR hj5 (Nat.le_refl _))
            have HF7 := Lib.hid hF
            clear hR hF c0 c1 c3 c4 c5 c6 fz HCO
            go_wp2
            go_ret
            exact ⟨_, j5, d4, sv4, o4, true, err4, none, rfl, by first | exact HV.out | exact HVA.out | exact ⟨by decide, by decide⟩, HI7.out.step (Fr.one _ _ _ _) (HI7.out.1.setDeepI _ (d4) (by omega)) hj5 (Nat.le_refl _), ((((((HF1.out.up.trans HF2.out).trans HF3.out.up).trans HF4.out).trans HF5.out.up).trans (Fr.one _ p 5 (.bool true)).up).trans HF7.out.up).trans (Fr.one _ _ _ _).up, by have := HN2.out; omega, by have := HN2.out; omega, PR.cho_two HP1.out HP2.out, rfl, by omega, by omega⟩
          | true =>
            have HCO := Lib.hid (fun c' => rchoice_off _ p s j5 d4 gv sv4 true err4 c' (by omega) (by rfl) HI5.out.1)
            go_upto_region 15 with (first
              | (go_at_call 19; (with_reducible refine (HCO.out _).mono ?_); rintro e w7 ⟨rfl, hR, hF⟩))
            obtain ⟨c0, c1, c2, c3, c4, c5, c6, fz⟩ := hR.cells
            have f2 := fz 2
            have HI7 := Lib.hid (HI5.out.step hF hR hj5 (Nat.le_refl _))
            have HF7 := Lib.hid hF
            clear hR hF c0 c1 c3 c4 c5 c6 fz HCO
            go_wp2
            go_ret
            exact ⟨_, j5, d4, sv4, o4, true, err4, none, rfl, by first | exact HV.out | exact HVA.out | exact ⟨by decide, by decide⟩, HI7.out.step (Fr.one _ _ _ _) (HI7.out.1.setDeepI _ (d4) (by omega)) hj5 (Nat.le_refl _), (((((HF1.out.up.trans HF2.out).trans HF3.out.up).trans HF4.out).trans HF5.out.up).trans HF7.out.up).trans (Fr.one _ _ _ _).up, by have := HN2.out; omega, by have := HN2.out; omega, PR.cho_two HP1.out HP2.out, rfl, by omega, by omega⟩
        · obtain ⟨rfl, rfl, hr2, hev2⟩ := hR2
          have HE2 := Lib.hid hev2
          have Hr2 := Lib.hid hr2
          clear hr2 hev2
          cases b5 with
          | false =>
            have HP3 := Lib.hid (PR.cho_three HP1.out HP2.out (by
              obtain ⟨q, _⟩ | ⟨_, q, _⟩ := HB5.out
              · cases q
              · rw [← Hr2.out]; exact q))
            obtain ⟨c0, c1, c2, c3, c4, c5, c6, fz⟩ := HI5.out.1.cells
            have f5 := fz 5
            clear c0 c1 c2 c3 c4 c6 fz
            go_upto_region 11 with (fail)
            have HI6 := Lib.hid (HI5.out.step (Fr.one _ p 5 (.bool true)) (HI5.out.1.setForm true) hj5 (Nat.le_refl _))
            have HCO := Lib.hid (fun c' => rchoice_off _ p s j5 (d + 1) gv sv4 true err4 c' (by omega) (by rfl) HI6.out.1)
            go_upto_region 15 with (first
              | (go_at_call 19; (with_reducible refine (HCO.out _).mono ?_); rintro e w7 ⟨rfl, hR, hF⟩))
            obtain ⟨c0, c1, c2, c3, c4, c5, c6, fz⟩ := hR.cells
            have f2 := fz 2
            have HI7 := Lib.hid (HI6.out.step hF hR hj5 (Nat.le_refl _))
            have HF7 := Lib.hid hF
            clear hR hF c0 c1 c3 c4 c5 c6 fz HCO
            go_wp2
            go_ret
            exact ⟨_, j5, (d + 1), sv4, o4, true, err4, none, rfl, by first | exact HV.out | exact HVA.out | exact ⟨by decide, by decide⟩, HI7.out.step (Fr.one _ _ _ _) (HI7.out.1.setDeepI _ ((d + 1)) (by omega)) hj5 (Nat.le_refl _), ((((((HF1.out.up.trans HF2.out).trans HF3.out.up).trans HF4.out).trans HF5.out.up).trans (Fr.one _ p 5 (.bool true)).up).trans HF7.out.up).trans (Fr.one _ _ _ _).up, by have := HN2.out; omega, by have := HN2.out; omega, HP3.out, rfl, by omega, by omega⟩
          | true =>
            obtain rfl : r2 = [58] :: tokX (s.data.toList.drop j5) := by
              obtain ⟨_, q⟩ | ⟨q, _⟩ := HB5.out
              · rw [← Hr2.out, q]
              · cases q
            go_upto_region 15 with (first
              | (go_at_call 19; (with_reducible refine (HC.out _ _ _ _ _ _ HI5.out).mono ?_); rintro e w7 ⟨vb, k7, d7, sv7, o7, form7, err7, R3, rfl, hvb, hI7, hF7, hk7, ho7, hP3, hR3⟩))
            obtain ⟨c0, c1, c2, c3, c4, c5, c6, fz⟩ := hI7.1.cells
            have f2 := fz 2
            have HVB := Lib.hid hvb
            have HI7 := Lib.hid hI7
            have HF7 := Lib.hid hF7
            have HP3 := Lib.hid hP3
            clear hvb hI7 hF7 hP3 c0 c1 c3 c4 c5 c6 fz
            have hk7s := HI7.out.2.2.2.2.2.2.1
            rcases R3 with _ | ⟨z, r3⟩
            · obtain ⟨rfl, hd7, hd7'⟩ := hR3
              obtain ⟨d8, rfl⟩ : ∃ d8, d7 = d8 + 1 := ⟨d7 - 1, by omega⟩
              go_wp2
              go_ret
              exact ⟨_, k7, d8, sv7, o7, true, err7, none, rfl, by first | exact HVB.out | exact HVA.out, HI7.out.step (Fr.one _ _ _ _) (HI7.out.1.setDeepI _ d8 (by omega)) hk7s (Nat.le_refl _), (((((HF1.out.up.trans HF2.out).trans HF3.out.up).trans HF4.out).trans HF5.out.up).trans HF7.out).trans (Fr.one _ _ _ _).up, by have := HN2.out; omega, by have := HN2.out; omega, PR.cho_four (by omega) HP1.out HP2.out HP3.out, rfl, by omega, by omega⟩
            · obtain ⟨rfl, rfl, hr3, hev3⟩ := hR3
              have HE3 := Lib.hid hev3
              have Hr3 := Lib.hid hr3
              clear hr3 hev3
              go_wp2
              go_ret
              refine ⟨_, k7, d, sv7, o7, false, err7, _, rfl, by first | exact HVB.out | exact HVA.out, HI7.out.step (Fr.one _ _ _ _) (HI7.out.1.setDeepI _ d (by omega)) hk7s (Nat.le_refl _), (((((HF1.out.up.trans HF2.out).trans HF3.out.up).trans HF4.out).trans HF5.out.up).trans HF7.out).trans (Fr.one _ _ _ _).up, by have := HN2.out; omega, by have := HN2.out; omega, PR.cho_four (by omega) HP1.out HP2.out HP3.out, rfl, rfl, Hr3.out, ?_⟩
              have e1 := HE1.out
              have e2 := HE2.out
              have e3 := HE3.out
              try rw [show (v != 0) = true by simp [hv0]] at e2
              try rw [show (v == 0) = false by simp [hv0]] at e3
              rw [evC, e1]
              dsimp only
              try simp only [show (v == 0) = false by simp [hv0], show (v != 0) = true by simp [hv0]]
              simp [e2, e3, *]
      · go_upto_region 8 with (first
          | (go_at_call 9; (with_reducible refine (HS.out _ _ _ _ _ _ HI3.out).mono ?_); rintro e w4 ⟨va, k4, d4, sv4, o4, form4, err4, R2, rfl, hva, hI4, hF4, hk4, ho4, hP2, hR2⟩))
        have HVA := Lib.hid hva
        have HI4 := Lib.hid hI4
        have HF4 := Lib.hid hF4
        have HP2 := Lib.hid hP2
        clear hva hI4 hF4 hP2
        have HT2 := Lib.hid (rtook_58 w4 p s k4 d4 gv sv4 form4 err4 HI4.out.2.2.2.2.2.2.1 hs HI4.out.1)
        go_upto_region 9 with (first
          | (go_at_call 29; (with_reducible refine HT2.out.mono ?_); rintro e w5 ⟨b5, j5, rfl, hR, hF, hkj5, hj5, hb⟩))
        have HB5 := Lib.hid hb
        have HI5 := Lib.hid (HI4.out.step hF hR hj5 hkj5)
        have HF5 := Lib.hid hF
        clear HT2 hb hR hF
        rcases R2 with _ | ⟨y, r2⟩
        · obtain ⟨rfl, hd4, hd4'⟩ := hR2
          cases b5 with
          | false =>
            obtain ⟨c0, c1, c2, c3, c4, c5, c6, fz⟩ := HI5.out.1.cells
            have f5 := fz 5
            clear c0 c1 c2 c3 c4 c6 fz
            go_upto_region 11 with (fail)
            have HI6 := Lib.hid (HI5.out.step (Fr.one _ p 5 (.bool true)) (HI5.out.1.setForm true) hj5 (Nat.le_refl _))
            have HCO := Lib.hid (fun c' => rchoice_off _ p s j5 d4 gv sv4 true err4 c' (by omega) (by rfl) HI6.out.1)
            go_upto_region 15 with (first
              | (go_at_call 19; (with_reducible refine (HCO.out _).mono ?_); rintro e w7 ⟨rfl, hR, hF⟩))
            obtain ⟨c0, c1, c2, c3, c4, c5, c6, fz⟩ := hR.cells
            have f2 := fz 2
            have HI7 := Lib.hid (HI6.out.step hF hR hj5 (Nat.le_refl _))
            have HF7 := Lib.hid hF
            clear hR hF c0 c1 c3 c4 c5 c6 fz HCO
            go_wp2
            go_ret
            exact ⟨_, j5, d4, sv4, o4, true, err4, none, rfl, by first | exact HV.out | exact HVA.out | exact ⟨by decide, by decide⟩, HI7.out.step (Fr.one _ _ _ _) (HI7.out.1.setDeepI _ (d4) (by omega)) hj5 (Nat.le_refl _), ((((((HF1.out.up.trans HF2.out).trans HF3.out.up).trans HF4.out).trans HF5.out.up).trans (Fr.one _ p 5 (.bool true)).up).trans HF7.out.up).trans (Fr.one _ _ _ _).up, by have := HN2.out; omega, by have := HN2.out; omega, PR.cho_two HP1.out HP2.out, rfl, by omega, by omega⟩
          | true =>
            have HCO := Lib.hid (fun c' => rchoice_off _ p s j5 d4 gv sv4 true err4 c' (by omega) (by rfl) HI5.out.1)
            go_upto_region 15 with (first
              | (go_at_call 19; (with_reducible refine (HCO.out _).mono ?_); rintro e w7 ⟨rfl, hR, hF⟩))
            obtain ⟨c0, c1, c2, c3, c4, c5, c6, fz⟩ := hR.cells
            have f2 := fz 2
            have HI7 := Lib.hid (HI5.out.step hF hR hj5 (Nat.le_refl _))
            have HF7 := Lib.hid hF
            clear hR hF c0 c1 c3 c4 c5 c6 fz HCO
            go_wp2
            go_ret
            exact ⟨_, j5, d4, sv4, o4, true, err4, none, rfl, by first | exact HV.out | exact HVA.out | exact ⟨by decide, by decide⟩, HI7.out.step (Fr.one _ _ _ _) (HI7.out.1.setDeepI _ (d4) (by omega)) hj5 (Nat.le_refl _), (((((HF1.out.up.trans HF2.out).trans HF3.out.up).trans HF4.out).trans HF5.out.up).trans HF7.out.up).trans (Fr.one _ _ _ _).up, by have := HN2.out; omega, by have := HN2.out; omega, PR.cho_two HP1.out HP2.out, rfl, by omega, by omega⟩
        · obtain ⟨rfl, rfl, hr2, hev2⟩ := hR2
          have HE2 := Lib.hid hev2
          have Hr2 := Lib.hid hr2
          clear hr2 hev2
          cases b5 with
          | false =>
            have HP3 := Lib.hid (PR.cho_three HP1.out HP2.out (by
              obtain ⟨q, _⟩ | ⟨_, q, _⟩ := HB5.out
              · cases q
              · rw [← Hr2.out]; exact q))
            obtain ⟨c0, c1, c2, c3, c4, c5, c6, fz⟩ := HI5.out.1.cells
            have f5 := fz 5
            clear c0 c1 c2 c3 c4 c6 fz
            go_upto_region 11 with (fail)
            have HI6 := Lib.hid (HI5.out.step (Fr.one _ p 5 (.bool true)) (HI5.out.1.setForm true) hj5 (Nat.le_refl _))
            have HCO := Lib.hid (fun c' => rchoice_off _ p s j5 (d + 1) gv sv4 true err4 c' (by omega) (by rfl) HI6.out.1)
            go_upto_region 15 with (first
              | (go_at_call 19; (with_reducible refine (HCO.out _).mono ?_); rintro e w7 ⟨rfl, hR, hF⟩))
            obtain ⟨c0, c1, c2, c3, c4, c5, c6, fz⟩ := hR.cells
            have f2 := fz 2
            have HI7 := Lib.hid (HI6.out.step hF hR hj5 (Nat.le_refl _))
            have HF7 := Lib.hid hF
            clear hR hF c0 c1 c3 c4 c5 c6 fz HCO
            go_wp2
            go_ret
            exact ⟨_, j5, (d + 1), sv4, o4, true, err4, none, rfl, by first | exact HV.out | exact HVA.out | exact ⟨by decide, by decide⟩, HI7.out.step (Fr.one _ _ _ _) (HI7.out.1.setDeepI _ ((d + 1)) (by omega)) hj5 (Nat.le_refl _), ((((((HF1.out.up.trans HF2.out).trans HF3.out.up).trans HF4.out).trans HF5.out.up).trans (Fr.one _ p 5 (.bool true)).up).trans HF7.out.up).trans (Fr.one _ _ _ _).up, by have := HN2.out; omega, by have := HN2.out; omega, HP3.out, rfl, by omega, by omega⟩
          | true =>
            obtain rfl : r2 = [58] :: tokX (s.data.toList.drop j5) := by
              obtain ⟨_, q⟩ | ⟨q, _⟩ := HB5.out
              · rw [← Hr2.out, q]
              · cases q
            go_upto_region 15 with (first
              | (go_at_call 19; (with_reducible refine (HC.out _ _ _ _ _ _ HI5.out).mono ?_); rintro e w7 ⟨vb, k7, d7, sv7, o7, form7, err7, R3, rfl, hvb, hI7, hF7, hk7, ho7, hP3, hR3⟩))
            obtain ⟨c0, c1, c2, c3, c4, c5, c6, fz⟩ := hI7.1.cells
            have f2 := fz 2
            have HVB := Lib.hid hvb
            have HI7 := Lib.hid hI7
            have HF7 := Lib.hid hF7
            have HP3 := Lib.hid hP3
            clear hvb hI7 hF7 hP3 c0 c1 c3 c4 c5 c6 fz
            have hk7s := HI7.out.2.2.2.2.2.2.1
            rcases R3 with _ | ⟨z, r3⟩
            · obtain ⟨rfl, hd7, hd7'⟩ := hR3
              obtain ⟨d8, rfl⟩ : ∃ d8, d7 = d8 + 1 := ⟨d7 - 1, by omega⟩
              go_wp2
              go_ret
              exact ⟨_, k7, d8, sv7, o7, true, err7, none, rfl, by first | exact HVB.out | exact HVA.out, HI7.out.step (Fr.one _ _ _ _) (HI7.out.1.setDeepI _ d8 (by omega)) hk7s (Nat.le_refl _), (((((HF1.out.up.trans HF2.out).trans HF3.out.up).trans HF4.out).trans HF5.out.up).trans HF7.out).trans (Fr.one _ _ _ _).up, by have := HN2.out; omega, by have := HN2.out; omega, PR.cho_four (by omega) HP1.out HP2.out HP3.out, rfl, by omega, by omega⟩
            · obtain ⟨rfl, rfl, hr3, hev3⟩ := hR3
              have HE3 := Lib.hid hev3
              have Hr3 := Lib.hid hr3
              clear hr3 hev3
              go_wp2
              go_ret
              refine ⟨_, k7, d, sv7, o7, false, err7, _, rfl, by first | exact HVB.out | exact HVA.out, HI7.out.step (Fr.one _ _ _ _) (HI7.out.1.setDeepI _ d (by omega)) hk7s (Nat.le_refl _), (((((HF1.out.up.trans HF2.out).trans HF3.out.up).trans HF4.out).trans HF5.out.up).trans HF7.out).trans (Fr.one _ _ _ _).up, by have := HN2.out; omega, by have := HN2.out; omega, PR.cho_four (by omega) HP1.out HP2.out HP3.out, rfl, rfl, Hr3.out, ?_⟩
              have e1 := HE1.out
              have e2 := HE2.out
              have e3 := HE3.out
              try rw [show (v != 0) = true by simp [hv0]] at e2
              try rw [show (v == 0) = false by simp [hv0]] at e3
              rw [evC, e1]
              dsimp only
              try simp only [show (v == 0) = false by simp [hv0], show (v != 0) = true by simp [hv0]]
              simp [e2, e3, *]
      · go_upto_region 8 with (first
          | (go_at_call 9; (with_reducible refine (HS.out _ _ _ _ _ _ HI3.out).mono ?_); rintro e w4 ⟨va, k4, d4, sv4, o4, form4, err4, R2, rfl, hva, hI4, hF4, hk4, ho4, hP2, hR2⟩))
        have HVA := Lib.hid hva
        have HI4 := Lib.hid hI4
        have HF4 := Lib.hid hF4
        have HP2 := Lib.hid hP2
        clear hva hI4 hF4 hP2
        have HT2 := Lib.hid (rtook_58 w4 p s k4 d4 gv sv4 form4 err4 HI4.out.2.2.2.2.2.2.1 hs HI4.out.1)
        go_upto_region 9 with (first
          | (go_at_call 29; (with_reducible refine HT2.out.mono ?_); rintro e w5 ⟨b5, j5, rfl, hR, hF, hkj5, hj5, hb⟩))
        have HB5 := Lib.hid hb
        have HI5 := Lib.hid (HI4.out.step hF hR hj5 hkj5)
        have HF5 := Lib.hid hF
        clear HT2 hb hR hF
        rcases R2 with _ | ⟨y, r2⟩
        · obtain ⟨rfl, hd4, hd4'⟩ := hR2
          cases b5 with
          | false =>
            obtain ⟨c0, c1, c2, c3, c4, c5, c6, fz⟩ := HI5.out.1.cells
            have f5 := fz 5
            clear c0 c1 c2 c3 c4 c6 fz
            go_upto_region 11 with (fail)
            have HI6 := Lib.hid (HI5.out.step (Fr.one _ p 5 (.bool true)) (HI5.out.1.setForm true) hj5 (Nat.le_refl _))
            have HCO := Lib.hid (fun c' => rchoice_off _ p s j5 d4 gv sv4 true err4 c' (by omega) (by rfl) HI6.out.1)
            go_upto_region 15 with (first
              | (go_at_call 19; (with_reducible refine (HCO.out _).mono ?_); rintro e w7 ⟨rfl, hR, hF⟩))
            obtain ⟨c0, c1, c2, c3, c4, c5, c6, fz⟩ := hR.cells
            have f2 := fz 2
            have HI7 := Lib.hid (HI6.out.step hF hR hj5 (Nat.le_refl _))
            have HF7 := Lib.hid hF
            clear hR hF c0 c1 c3 c4 c5 c6 fz HCO
            go_wp2
            go_ret
            exact ⟨_, j5, d4, sv4, o4, true, err4, none, rfl, by first | exact HV.out | exact HVA.out | exact ⟨by decide, by decide⟩, HI7.out.step (Fr.one _ _ _ _) (HI7.out.1.setDeepI _ (d4) (by omega)) hj5 (Nat.le_refl _), ((((((HF1.out.up.trans HF2.out).trans HF3.out.up).trans HF4.out).trans HF5.out.up).trans (Fr.one _ p 5 (.bool true)).up).trans HF7.out.up).trans (Fr.one _ _ _ _).up, by have := HN2.out; omega, by have := HN2.out; omega, PR.cho_two HP1.out HP2.out, rfl, by omega, by omega⟩
          | true =>
            have HCO := Lib.hid (fun c' => rchoice_off _ p s j5 d4 gv sv4 true err4 c' (by omega) (by rfl) HI5.out.1)
            go_upto_region 15 with (first
              | (go_at_call 19; (with_reducible refine (HCO.out _).mono ?_); rintro e w7 ⟨rfl, hR, hF⟩))
            obtain ⟨c0, c1, c2, c3, c4, c5, c6, fz⟩ := hR.cells
            have f2 := fz 2
            have HI7 := Lib.hid (HI5.out.step hF hR hj5 (Nat.le_refl _))
            have HF7 := Lib.hid hF
            clear hR hF c0 c1 c3 c4 c5 c6 fz HCO
            go_wp2
            go_ret
            exact ⟨_, j5, d4, sv4, o4, true, err4, none, rfl, by first | exact HV.out | exact HVA.out | exact ⟨by decide, by decide⟩, HI7.out.step (Fr.one _ _ _ _) (HI7.out.1.setDeepI _ (d4) (by omega)) hj5 (Nat.le_refl _), (((((HF1.out.up.trans HF2.out).trans HF3.out.up).trans HF4.out).trans HF5.out.up).trans HF7.out.up).trans (Fr.one _ _ _ _).up, by have := HN2.out; omega, by have := HN2.out; omega, PR.cho_two HP1.out HP2.out, rfl, by omega, by omega⟩
        · obtain ⟨rfl, rfl, hr2, hev2⟩ := hR2
          have HE2 := Lib.hid hev2
          have Hr2 := Lib.hid hr2
          clear hr2 hev2
          cases b5 with
          | false =>
            have HP3 := Lib.hid (PR.cho_three HP1.out HP2.out (by
              obtain ⟨q, _⟩ | ⟨_, q, _⟩ := HB5.out
              · cases q
              · rw [← Hr2.out]; exact q))
            obtain ⟨c0, c1, c2, c3, c4, c5, c6, fz⟩ := HI5.out.1.cells
            have f5 := fz 5
            clear c0 c1 c2 c3 c4 c6 fz
            go_upto_region 11 with (fail)
            have HI6 := Lib.hid (HI5.out.step (Fr.one _ p 5 (.bool true)) (HI5.out.1.setForm true) hj5 (Nat.le_refl _))
            have HCO := Lib.hid (fun c' => rchoice_off _ p s j5 (d + 1) gv sv4 true err4 c' (by omega) (by rfl) HI6.out.1)
            go_upto_region 15 with (first
              | (go_at_call 19; (with_reducible refine (HCO.out _).mono ?_); rintro e w7 ⟨rfl, hR, hF⟩))
            obtain ⟨c0, c1, c2, c3, c4, c5, c6, fz⟩ := hR.cells
            have f2 := fz 2
            have HI7 := Lib.hid (HI6.out.step hF hR hj5 (Nat.le_refl _))
            have HF7 := Lib.hid hF
            clear hR hF c0 c1 c3 c4 c5 c6 fz HCO
            go_wp2
            go_ret
            exact ⟨_, j5, (d + 1), sv4, o4, true, err4, none, rfl, by first | exact HV.out | exact HVA.out | exact ⟨by decide, by decide⟩, HI7.out.step (Fr.one _ _ _ _) (HI7.out.1.setDeepI _ ((d + 1)) (by omega)) hj5 (Nat.le_refl _), ((((((HF1.out.up.trans HF2.out).trans HF3.out.up).trans HF4.out).trans HF5.out.up).trans (Fr.one _ p 5 (.bool true)).up).trans HF7.out.up).trans (Fr.one _ _ _ _).up, by have := HN2.out; omega, by have := HN2.out; omega, HP3.out, rfl, by omega, by omega⟩
          | true =>
            obtain rfl : r2 = [58] :: tokX (s.data.toList.drop j5) := by
              obtain ⟨_, q⟩ | ⟨q, _⟩ := HB5.out
              · rw [← Hr2.out, q]
              · cases q
            go_upto_region 15 with (first
              | (go_at_call 19; (with_reducible refine (HC.out _ _ _ _ _ _ HI5.out).mono ?_); rintro e w7 ⟨vb, k7, d7, sv7, o7, form7, err7, R3, rfl, hvb, hI7, hF7, hk7, ho7, hP3, hR3⟩))
            obtain ⟨c0, c1, c2, c3, c4, c5, c6, fz⟩ := hI7.1.cells
            have f2 := fz 2
            have HVB := Lib.hid hvb
            have HI7 := Lib.hid hI7
            have HF7 := Lib.hid hF7
            have HP3 := Lib.hid hP3
            clear hvb hI7 hF7 hP3 c0 c1 c3 c4 c5 c6 fz
            have hk7s := HI7.out.2.2.2.2.2.2.1
            rcases R3 with _ | ⟨z, r3⟩
            · obtain ⟨rfl, hd7, hd7'⟩ := hR3
              obtain ⟨d8, rfl⟩ : ∃ d8, d7 = d8 + 1 := ⟨d7 - 1, by omega⟩
              go_wp2
              go_ret
              exact ⟨_, k7, d8, sv7, o7, true, err7, none, rfl, by first | exact HVB.out | exact HVA.out, HI7.out.step (Fr.one _ _ _ _) (HI7.out.1.setDeepI _ d8 (by omega)) hk7s (Nat.le_refl _), (((((HF1.out.up.trans HF2.out).trans HF3.out.up).trans HF4.out).trans HF5.out.up).trans HF7.out).trans (Fr.one _ _ _ _).up, by have := HN2.out; omega, by have := HN2.out; omega, PR.cho_four (by omega) HP1.out HP2.out HP3.out, rfl, by omega, by omega⟩
            · obtain ⟨rfl, rfl, hr3, hev3⟩ := hR3
              have HE3 := Lib.hid hev3
              have Hr3 := Lib.hid hr3
              clear hr3 hev3
              go_wp2
              go_ret
              refine ⟨_, k7, d, sv7, o7, false, err7, _, rfl, by first | exact HVB.out | exact HVA.out, HI7.out.step (Fr.one _ _ _ _) (HI7.out.1.setDeepI _ d (by omega)) hk7s (Nat.le_refl _), (((((HF1.out.up.trans HF2.out).trans HF3.out.up).trans HF4.out).trans HF5.out.up).trans HF7.out).trans (Fr.one _ _ _ _).up, by have := HN2.out; omega, by have := HN2.out; omega, PR.cho_four (by omega) HP1.out HP2.out HP3.out, rfl, rfl, Hr3.out, ?_⟩
              have e1 := HE1.out
              have e2 := HE2.out
              have e3 := HE3.out
              try rw [show (v != 0) = true by simp [hv0]] at e2
              try rw [show (v == 0) = false by simp [hv0]] at e3
              rw [evC, e1]
              dsimp only
              try simp only [show (v == 0) = false by simp [hv0], show (v != 0) = true by simp [hv0]]
              simp [e2, e3, *]
      · go_upto_region 8 with (first
          | (go_at_call 9; (with_reducible refine (HS.out _ _ _ _ _ _ HI3.out).mono ?_); rintro e w4 ⟨va, k4, d4, sv4, o4, form4, err4, R2, rfl, hva, hI4, hF4, hk4, ho4, hP2, hR2⟩))
        have HVA := Lib.hid hva
        have HI4 := Lib.hid hI4
        have HF4 := Lib.hid hF4
        have HP2 := Lib.hid hP2
        clear hva hI4 hF4 hP2
        have HT2 := Lib.hid (rtook_58 w4 p s k4 d4 gv sv4 form4 err4 HI4.out.2.2.2.2.2.2.1 hs HI4.out.1)
        go_upto_region 9 with (first
          | (go_at_call 29; (with_reducible refine HT2.out.mono ?_); rintro e w5 ⟨b5, j5, rfl, hR, hF, hkj5, hj5, hb⟩))
        have HB5 := Lib.hid hb
        have HI5 := Lib.hid (HI4.out.step hF hR hj5 hkj5)
        have HF5 := Lib.hid hF
        clear HT2 hb hR hF
        rcases R2 with _ | ⟨y, r2⟩
        · obtain ⟨rfl, hd4, hd4'⟩ := hR2
          cases b5 with
          | false =>
            obtain ⟨c0, c1, c2, c3, c4, c5, c6, fz⟩ := HI5.out.1.cells
            have f5 := fz 5
            clear c0 c1 c2 c3 c4 c6 fz
            go_upto_region 11 with (fail)
            have HI6 := Lib.hid (HI5.out.step (Fr.one _ p 5 (.bool true)) (HI5.out.1.setForm true) hj5 (Nat.le_refl _))
            have HCO := Lib.hid (fun c' => rchoice_off _ p s j5 d4 gv sv4 true err4 c' (by omega) (by rfl) HI6.out.1)
            go_upto_region 15 with (first
              | (go_at_call 19; (with_reducible refine (HCO.out _).mono ?_); rintro e w7 ⟨rfl, hR, hF⟩))
            obtain ⟨c0, c1, c2, c3, c4, c5, c6, fz⟩ := hR.cells
            have f2 := fz 2
            have HI7 := Lib.hid (HI6.out.step hF hR hj5 (Nat.le_refl _))
            have HF7 := Lib.hid hF
            clear hR hF c0 c1 c3 c4 c5 c6 fz HCO
            go_wp2
            go_ret
            exact ⟨_, j5, d4, sv4, o4, true, err4, none, rfl, by first | exact HV.out | exact HVA.out | exact ⟨by decide, by decide⟩, HI7.out.step (Fr.one _ _ _ _) (HI7.out.1.setDeepI _ (d4) (by omega)) hj5 (Nat.le_refl _), ((((((HF1.out.up.trans HF2.out).trans HF3.out.up).trans HF4.out).trans HF5.out.up).trans (Fr.one _ p 5 (.bool true)).up).trans HF7.out.up).trans (Fr.one _ _ _ _).up, by have := HN2.out; omega, by have := HN2.out; omega, PR.cho_two HP1.out HP2.out, rfl, by omega, by omega⟩
          | true =>
            have HCO := Lib.hid (fun c' => rchoice_off _ p s j5 d4 gv sv4 true err4 c' (by omega) (by rfl) HI5.out.1)
            go_upto_region 15 with (first
              | (go_at_call 19; (with_reducible refine (HCO.out _).mono ?_); rintro e w7 ⟨rfl, hR, hF⟩))
            obtain ⟨c0, c1, c2, c3, c4, c5, c6, fz⟩ := hR.cells
            have f2 := fz 2
            have HI7 := Lib.hid (HI5.out.step hF hR hj5 (Nat.le_refl _))
            have HF7 := Lib.hid hF
            clear hR hF c0 c1 c3 c4 c5 c6 fz HCO
            go_wp2
            go_ret
            exact ⟨_, j5, d4, sv4, o4, true, err4, none, rfl, by first | exact HV.out | exact HVA.out | exact ⟨by decide, by decide⟩, HI7.out.step (Fr.one _ _ _ _) (HI7.out.1.setDeepI _ (d4) (by omega)) hj5 (Nat.le_refl _), (((((HF1.out.up.trans HF2.out).trans HF3.out.up).trans HF4.out).trans HF5.out.up).trans HF7.out.up).trans (Fr.one _ _ _ _).up, by have := HN2.out; omega, by have := HN2.out; omega, PR.cho_two HP1.out HP2.out, rfl, by omega, by omega⟩
        · obtain ⟨rfl, rfl, hr2, hev2⟩ := hR2
          have HE2 := Lib.hid hev2
          have Hr2 := Lib.hid hr2
          clear hr2 hev2
          cases b5 with
          | false =>
            have HP3 := Lib.hid (PR.cho_three HP1.out HP2.out (by
              obtain ⟨q, _⟩ | ⟨_, q, _⟩ := HB5.out
              · cases q
              · rw [← Hr2.out]; exact q))
            obtain ⟨c0, c1, c2, c3, c4, c5, c6, fz⟩ := HI5.out.1.cells
            have f5 := fz 5
            clear c0 c1 c2 c3 c4 c6 fz
            go_upto_region 11 with (fail)
            have HI6 := Lib.hid (HI5.out.step (Fr.one _ p 5 (.bool true)) (HI5.out.1.setForm true) hj5 (Nat.le_refl _))
            have HCO := Lib.hid (fun c' => rchoice_off _ p s j5 (d + 1) gv sv4 true err4 c' (by omega) (by rfl) HI6.out.1)
            go_upto_region 15 with (first
              | (go_at_call 19; (with_reducible refine (HCO.out _).mono ?_); rintro e w7 ⟨rfl, hR, hF⟩))
            obtain ⟨c0, c1, c2, c3, c4, c5, c6, fz⟩ := hR.cells
            have f2 := fz 2
            have HI7 := Lib.hid (HI6.out.step hF hR hj5 (Nat.le_refl _))
            have HF7 := Lib.hid hF
            clear hR hF c0 c1 c3 c4 c5 c6 fz HCO
            go_wp2
            go_ret
            exact ⟨_, j5, (d + 1), sv4, o4, true, err4, none, rfl, by first | exact HV.out | exact HVA.out | exact ⟨by decide, by decide⟩, HI7.out.step (Fr.one _ _ _ _) (HI7.out.1.setDeepI _ ((d + 1)) (by omega)) hj5 (Nat.le_refl _), ((((((HF1.out.up.trans HF2.out).trans HF3.out.up).trans HF4.out).trans HF5.out.up).trans (Fr.one _ p 5 (.bool true)).up).trans HF7.out.up).trans (Fr.one _ _ _ _).up, by have := HN2.out; omega, by have := HN2.out; omega, HP3.out, rfl, by omega, by omega⟩
          | true =>
            obtain rfl : r2 = [58] :: tokX (s.data.toList.drop j5) := by
              obtain ⟨_, q⟩ | ⟨q, _⟩ := HB5.out
              · rw [← Hr2.out, q]
              · cases q
            go_upto_region 15 with (first
              | (go_at_call 19; (with_reducible refine (HC.out _ _ _ _ _ _ HI5.out).mono ?_); rintro e w7 ⟨vb, k7, d7, sv7, o7, form7, err7, R3, rfl, hvb, hI7, hF7, hk7, ho7, hP3, hR3⟩))
            obtain ⟨c0, c1, c2, c3, c4, c5, c6, fz⟩ := hI7.1.cells
            have f2 := fz 2
            have HVB := Lib.hid hvb
            have HI7 := Lib.hid hI7
            have HF7 := Lib.hid hF7
            have HP3 := Lib.hid hP3
            clear hvb hI7 hF7 hP3 c0 c1 c3 c4 c5 c6 fz
            have hk7s := HI7.out.2.2.2.2.2.2.1
            rcases R3 with _ | ⟨z, r3⟩
            · obtain ⟨rfl, hd7, hd7'⟩ := hR3
              obtain ⟨d8, rfl⟩ : ∃ d8, d7 = d8 + 1 := ⟨d7 - 1, by omega⟩
              go_wp2
              go_ret
              exact ⟨_, k7, d8, sv7, o7, true, err7, none, rfl, by first | exact HVB.out | exact HVA.out, HI7.out.step (Fr.one _ _ _ _) (HI7.out.1.setDeepI _ d8 (by omega)) hk7s (Nat.le_refl _), (((((HF1.out.up.trans HF2.out).trans HF3.out.up).trans HF4.out).trans HF5.out.up).trans HF7.out).trans (Fr.one _ _ _ _).up, by have := HN2.out; omega, by have := HN2.out; omega, PR.cho_four (by omega) HP1.out HP2.out HP3.out, rfl, by omega, by omega⟩
            · obtain ⟨rfl, rfl, hr3, hev3⟩ := hR3
              have HE3 := Lib.hid hev3
              have Hr3 := Lib.hid hr3
              clear hr3 hev3
              go_wp2
              go_ret
              refine ⟨_, k7, d, sv7, o7, false, err7, _, rfl, by first | exact HVB.out | exact HVA.out, HI7.out.step (Fr.one _ _ _ _) (HI7.out.1.setDeepI _ d (by omega)) hk7s (Nat.le_refl _), (((((HF1.out.up.trans HF2.out).trans HF3.out.up).trans HF4.out).trans HF5.out.up).trans HF7.out).trans (Fr.one _ _ _ _).up, by have := HN2.out; omega, by have := HN2.out; omega, PR.cho_four (by omega) HP1.out HP2.out HP3.out, rfl, rfl, Hr3.out, ?_⟩
              have e1 := HE1.out
              have e2 := HE2.out
              have e3 := HE3.out
              try rw [show (v != 0) = true by simp [hv0]] at e2
              try rw [show (v == 0) = false by simp [hv0]] at e3
              rw [evC, e1]
              dsimp only
              try simp only [show (v == 0) = false by simp [hv0], show (v != 0) = true by simp [hv0]]
              simp [e2, e3, *]
end Go.Proofs.YtbmnngliapmgfaaGreatDoor
