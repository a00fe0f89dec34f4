/- The walk of TtyHides. -/
import Derived.Test.YtojbgokbobkbdaaEL
namespace Go.Proofs.Ytojbgokbobkbdaa
open Go.RowKit
set_option linter.unusedVariables false
set_option linter.unusedSimpArgs false
variable {w0 W W' : World} {B T : Nat} {S : Nat → Prop} {s : TS}
def hideRel (w : World) (T : Nat) (was : Bs) (iv : Value) (wr : World) : Prop := ∃ (k : Nat) (s : TS) (m : Nat), iv = .int .i64 k ∧ k ≤ 40 ∧ s.echo = false ∧ s.shown = was ++ List.replicate m 10 ∧ s.shown.length ≤ 3000000 + 1000000 * k ∧ TL w wr T s
def hide2 (w : World) (T : Nat) (s : TS) (lo hi : Nat) (iv : Value) (wr : World) : Prop := ∃ (k : Nat), iv = .int .i64 k ∧ lo ≤ k ∧ k ≤ hi ∧ TL w wr T s
theorem hide_last (s : TS) (h : s.echo = false) : echoP true s = ⟨[], [], true, s.shown⟩ := by
  unfold echoP
  rw [if_neg (by rw [h]; decide)]
theorem hide_first (s : TS) : (echoP false s).echo = false ∧ (echoP false s).shown = s.shown := ⟨(shown_echo false s).2, (shown_echo false s).1⟩
theorem ba_get (l : Bs) (k : Nat) (h : k < (⟨l.toArray⟩ : ByteArray).size) (h2 : k < l.length) : (⟨l.toArray⟩ : ByteArray)[k]'h = l[k]'h2 := rfl
theorem hide_byte (was : Bs) (m k : Nat) (h1 : was.length ≤ k) (h2 : k < (was ++ List.replicate m (10 : UInt8)).length) : (was ++ List.replicate m (10 : UInt8))[k]'h2 = 10 := by
  rw [List.getElem_append_right h1]
  simp
theorem key_echo (b : UInt8) (s : TS) : (keyP b s).echo = s.echo := by
  unfold keyP
  split
  · unfold enterP; split <;> rfl
  split
  · unfold endP; split <;> rfl
  split
  · rfl
  split
  · rfl
  split
  · unfold addP; split <;> rfl
  · rfl
theorem type_echo (l : Bs) (s : TS) : (typeP l s).echo = s.echo := by
  induction l generalizing s with
  | nil => rfl
  | cons b r ih => exact (ih (keyP b s)).trans (key_echo b s)
theorem cut_app (a b : Bs) : (⟨(a ++ b).toArray⟩ : ByteArray).extract 0 a.length = ⟨a.toArray⟩ := by rw [ba_take, List.take_left]
set_option maxHeartbeats 4000000 in
set_option maxRecDepth 100000 in
theorem hides_any (z : ByteArray) (p0 : Option Addr) (n0 c0 : Nat) (z0 : List ByteArray) (p1 : Option Addr) (n1 c1 : Nat) (z1 : List Int) (w : World) (hz : z.size ≤ maxLen) (h0 : InStrs w p0 n0 z0) (l0 : n0 ≤ maxLen) (h1 : InInts w p1 n1 z1) (l1 : n1 ≤ maxLen) :
    Calls Try.prog 4 #[.string z, .slice p0 n0 c0, .slice p1 n1 c1] w fun e w' => e = .returned (.bool true) ∧ Below w.heap.size w w' := by
  have H0 := Lib.hid h0
  have H1 := Lib.hid h1
  have HSH := Lib.hid (fun w => short_any z 3000 (by decide) hz w)
  unfold maxLen at l0 l1
  clear h0 h1 hz
  go_enter Try.func4, Try.ntmps4
  go_wp2_with fail
  refine (shown_any w).mono ?_
  rintro e w1 ⟨rfl, b1⟩
  go_wp2_with fail
  refine (tl_new b1).mono ?_
  rintro e w2 ⟨T, rfl, p2⟩
  have H2 := Lib.hid p2
  clear p2 b1
  go_wp2_with fail
  refine (HSH.out _).mono ?_
  rintro e w3 ⟨rfl, rfl⟩
  have hzs := short_size z 3000
  have hst := shown_type H2.out.ok (shortP z 3000).data.toList
  rw [← size_list] at hst
  have HT := Lib.hid (tl_type (shortP z 3000) (by omega) H2.out (by decide))
  have hn0 : new0.shown.length = 0 := rfl
  have hbd : (typeP (shortP z 3000).data.toList new0).shown.length ≤ 3000000 := by omega
  have hec : (typeP (shortP z 3000).data.toList new0).echo = true := type_echo _ _
  generalize typeP (shortP z 3000).data.toList new0 = s1 at *
  generalize shortP z 3000 = y at *
  clear H2 hst hn0 HSH hzs
  go_wp2_with fail
  refine HT.out.mono ?_
  rintro e w4 ⟨rfl, h4⟩
  have HE := Lib.hid (tl_echo false h4)
  have hE : echoP false s1 = ⟨[], [], false, s1.shown⟩ := by unfold echoP; rw [if_neg (by rw [hec]; decide)]
  rw [hE] at HE
  obtain ⟨was, hwas⟩ : ∃ was, was = s1.shown := ⟨_, rfl⟩
  rw [← hwas] at HE hbd
  clear h4 HT hE hwas hec
  go_wp2_with fail
  refine HE.out.mono ?_
  rintro e w5 ⟨rfl, h5⟩
  have HS := Lib.hid (tl_screen h5)
  simp only at HS
  clear HE h5
  go_wp2_with fail
  refine HS.out.mono ?_
  rintro e w6 ⟨rfl, h6⟩
  have HU := Lib.hid (tl_unread h6)
  clear HS h6
  obtain ⟨X, hX⟩ : ∃ X, X = (⟨was.toArray⟩ : ByteArray) := ⟨_, rfl⟩
  rw [← hX]
  have hXs : X.size = was.length := by rw [hX, ba_size]
  have HX := Lib.hid hX
  have HXS := Lib.hid hXs
  clear hX hXs
  simp only at HU
  rw [show cnt [] = 0 from rfl, show List.length ([] : Bs) = 0 from rfl] at HU
  go_wp2_with fail
  refine HU.out.mono ?_
  rintro e w7 ⟨rfl, h7⟩
  have H7 := Lib.hid h7
  clear HU h7
  go_wp2
  go_loopw [12] (fun iv wr => hideRel w T was iv wr) (fun iv _ => 40 - (Lib.intOf iv).toNat)
  case atStart => exact ⟨0, _, 0, rfl, by decide, rfl, by simp, by simp only; omega, H7.out⟩
  case round =>
    obtain ⟨k, s, m, rfl, hk, hs1, hs2, hs3, hT⟩ := hrel
    clear H7
    have HS1 := Lib.hid hs1
    have HS2 := Lib.hid hs2
    clear hs1 hs2
    by_cases hlt : k < n0 ∧ k < 40
    · obtain ⟨k0, k2⟩ := hlt
      have hz0 : z0[k]? = some (z0[k]'(by rw [H0.out.1]; exact k0)) := List.getElem?_eq_getElem _
      obtain ⟨g0, o0, rfl, hc, hs⟩ := H0.out.2 k _ hz0
      generalize z0[k]'(by rw [H0.out.1]; exact k0) = z at hz0 hc hs
      have e0 := hT.cell hc
      have i1 : (0 : Int) ≤ (k : Int) := by omega
      have i2 : (k : Int) < n0 := by omega
      have i4 : (k : Int) < 40 := by omega
      have H3 := Lib.hid hT
      clear hz0 hc hT
      go_wp2_with fail
      refine (short_any z 500 (by decide) hs _).mono ?_
      rintro e w3 ⟨rfl, rfl⟩
      have hz := short_size z 500
      have hst := shown_type H3.out.ok (shortP z 500).data.toList
      have hhd := hide_type (shortP z 500).data.toList s HS1.out
      rw [← size_list] at hst
      have HT := Lib.hid (tl_type (shortP z 500) (by omega) H3.out (by omega))
      generalize typeP (shortP z 500).data.toList s = s2 at *
      generalize shortP z 500 = y at *
      obtain ⟨h1, m2, h2⟩ := hhd
      rw [HS2.out, List.append_assoc, List.replicate_append_replicate] at h2
      have G1 := Lib.hid h1
      have G2 := Lib.hid h2
      have G3 : s2.shown.length ≤ 3000000 + 1000000 * (k + 1) := by omega
      clear H3 e0 h1 h2 hst HS1 HS2 hs3 hs hz
      go_wp2_with fail
      refine HT.out.mono ?_
      rintro e w4 ⟨rfl, h4⟩
      clear HT
      by_cases k1 : k < n1
      · have hz1 : z1[k]? = some (z1[k]'(by rw [H1.out.1]; exact k1)) := List.getElem?_eq_getElem _
        obtain ⟨g1, o1, rfl, hc1, hw1⟩ := H1.out.2 k _ hz1
        generalize z1[k]'(by rw [H1.out.1]; exact k1) = f at hz1 hc1 hw1
        have e1 := h4.cell hc1
        have i3 : (k : Int) < n1 := by omega
        have HR := Lib.hid (tl_read f h4)
        have hsr := shown_read f s2
        rw [← hsr.1] at G3
        have HSR := Lib.hid hsr
        clear hz1 hc1 h4 hsr
        go_wp2_with fail
        refine HR.out.mono ?_
        rintro e w5 ⟨rfl, h5⟩
        have H5 := Lib.hid h5
        clear HR h5 e1
        go_wp2
        go_roundw
        case rel => exact ⟨k + 1, readP f s2, m + m2, by go_num, by omega, HSR.out.2.1.trans G1.out, HSR.out.1.trans G2.out, G3, H5.out⟩
        case measure => simp [Lib.intOf]; omega
      · have i3 : ¬ (k : Int) < n1 := by omega
        have H5 := Lib.hid h4
        clear h4 k1
        go_wp2
        go_roundw
        case rel => exact ⟨k + 1, s2, m + m2, by go_num, by omega, G1.out, G2.out, G3, H5.out⟩
        case measure => simp [Lib.intOf]; omega
    · have HSC := Lib.hid (tl_screen hT)
      have hend : (k : Int) < n0 ∧ ¬ (k : Int) < 40 ∨ ¬ (k : Int) < n0 := by omega
      obtain ⟨Y, hY⟩ : ∃ Y, Y = (⟨s.shown.toArray⟩ : ByteArray) := ⟨_, rfl⟩
      rw [← hY] at HSC
      have hYs : Y.size = was.length + m := by rw [hY, ba_size, HS2.out, List.length_append, List.length_replicate]
      have hcut : Y.extract 0 X.size = X := by rw [hY, HXS.out, HS2.out, cut_app, HX.out]
      have hbyte : ∀ (j : Nat) (hj : j < Y.size), was.length ≤ j → ((Y[j]'hj).toNat : Int) = 10 := by
        subst hY
        intro j hj hw
        have h2 : j < s.shown.length := by rw [← ba_size]; exact hj
        rw [ba_get _ _ hj h2]
        have : s.shown[j]'h2 = 10 := by
          have h3 := HS2.out
          have h4 : s.shown[j]? = (was ++ List.replicate m 10)[j]? := by rw [h3]
          rw [List.getElem?_eq_getElem h2, List.getElem?_eq_getElem (by rw [← h3]; exact h2)] at h4
          rw [Option.some.inj h4]
          exact hide_byte was m j hw _
        rw [this]
        rfl
      have HBY := Lib.hid hbyte
      have HYS := Lib.hid hYs
      have HYE := Lib.hid hY
      have hle : X.size ≤ Y.size := by rw [HXS.out, HYS.out]; omega
      have hle2 : ¬ ((Y.size : Int) < X.size) := by omega
      have hle3 : (X.size : Int) ≤ Y.size := by omega
      have hb3 : Y.size ≤ 100000000 := by rw [HYS.out]; have := congrArg List.length HS2.out; rw [List.length_append, List.length_replicate] at this; omega
      clear hlt hT hY hYs hbyte
      rcases hend with ⟨i1, i2⟩ | i1
      all_goals
        go_wp2_with fail
        refine HSC.out.mono ?_
        rintro e w5 ⟨rfl, h5⟩
        have H5 := Lib.hid h5
        clear HSC h5
        go_wp2
        go_loopw [14] (fun iv wr => hide2 w T s X.size Y.size iv wr) (fun iv _ => Y.size - (Lib.intOf iv).toNat)
        case atStart => exact ⟨X.size, rfl, Nat.le_refl _, hle, H5.out⟩
        case round =>
          obtain ⟨j, rfl, hj1, hj2, hT3⟩ := hrel
          clear H5
          by_cases hjl : j < Y.size
          · have jb := HBY.out j hjl (by rw [← HXS.out]; exact hj1)
            have j1 : (j : Int) < Y.size := by omega
            have j0 : (0 : Int) ≤ j := by omega
            have H6 := Lib.hid hT3
            clear hT3
            go_wp2
            go_roundw
            case rel => exact ⟨j + 1, by go_num, by omega, by omega, H6.out⟩
            case measure => simp [Lib.intOf]; omega
          · have j1 : ¬ (j : Int) < Y.size := by omega
            have HE := Lib.hid (tl_echo true hT3)
            rw [hide_last s HS1.out] at HE
            clear hT3 hjl
            go_wp2_with fail
            refine HE.out.mono ?_
            rintro e w6 ⟨rfl, h6⟩
            have HU := Lib.hid (tl_unread h6)
            simp only at HU
            rw [show cnt [] = 0 from rfl, show List.length ([] : Bs) = 0 from rfl] at HU
            clear HE h6
            go_wp2_with fail
            refine HU.out.mono ?_
            rintro e w7 ⟨rfl, h7⟩
            have hR := read_none 99 [] s.shown true
            have HR := Lib.hid (tl_read 99 h7)
            unfold readV at HR
            rw [hR.1, hR.2.1, hR.2.2] at HR
            clear HU h7 hR
            go_wp2_with fail
            refine HR.out.mono ?_
            rintro e w8 ⟨rfl, h8⟩
            have HS := Lib.hid (tl_screen h8)
            simp only at HS
            rw [← HYE.out] at HS
            clear HR h8
            go_wp2_with fail
            refine HS.out.mono ?_
            rintro e w9 ⟨rfl, h9⟩
            have HB := Lib.hid h9.bel
            clear HS h9
            go_wp2
            go_ret
            exact ⟨rfl, HB.out⟩
end Go.Proofs.Ytojbgokbobkbdaa
