/- The walk of PipeCarries. -/
import Derived.Test.YthgjhpiajjamnaaKK
namespace Go.Proofs.Ythgjhpiajjamnaa
open Go.RowKit
set_option linter.unusedVariables false
set_option linter.unusedSimpArgs false

/-- behind k texts: 'in' is what was written, 'out' what was read. -/
def carRel (w : World) (P : Nat) (iv xv yv : Value) (W : World) : Prop := ∃ (k : Nat) (x y : ByteArray) (l : Bs), iv = .int .i64 k ∧ k ≤ 60 ∧ xv = .string x ∧ yv = .string y ∧ x.data.toList = y.data.toList ++ l ∧ x.size ≤ 128 * k ∧ PW w W P l 1 1
theorem cut_size (s : ByteArray) (h : 1000 < s.size) : (s.extract 0 1000).size = 1000 := by
  simp [ByteArray.size_extract]; omega
set_option maxRecDepth 100000 in
set_option maxHeartbeats 4000000 in
theorem carries_any (p0 : Option Addr) (n0 c0 : Nat) (z0 : List ByteArray) (p1 : Option Addr) (n1 c1 : Nat) (z1 : List Int) (w : World) (h0 : InStrs w p0 n0 z0) (l0 : n0 ≤ maxLen) (h1 : InInts w p1 n1 z1) (l1 : n1 ≤ maxLen) :
    Calls Try.prog 4 #[.slice p0 n0 c0, .slice p1 n1 c1] w fun e w' => e = .returned (.bool true) ∧ Below w.heap.size w w' := by
  have H0 := Lib.hid h0
  have H1 := Lib.hid h1
  unfold maxLen at l0 l1
  clear h0 h1
  go_enter Try.func4, Try.ntmps4
  go_wp2_with fail
  refine (shown_any w).mono ?_
  rintro e w1 ⟨rfl, b1⟩
  go_wp2_with fail
  refine (pw_new b1).mono ?_
  rintro e w2 ⟨P, rfl, p2⟩
  have H2 := Lib.hid p2
  clear p2 b1
  go_wp2
  go_loopw [9, 7, 8] (fun iv xv yv wr => carRel w P iv xv yv wr) (fun iv _ _ _ => 60 - (intOf iv).toNat)
  case atStart => exact ⟨0, ⟨#[]⟩, ⟨#[]⟩, [], rfl, by decide, rfl, rfl, rfl, by decide, H2.out⟩
  case round =>
    obtain ⟨k, x, y, l, rfl, hk, rfl, rfl, hxy, hxs, hp⟩ := hrel
    clear H2
    have HXY := Lib.hid hxy
    have hys : y.size + l.length = x.size := by rw [← data_len x, hxy, List.length_append, data_len]
    have hl := hp.p.len
    clear hxy
    by_cases hlt : k < n0 ∧ k < 60
    · obtain ⟨k0, k2⟩ := hlt
      have hz0 : z0[k]? = some (z0[k]'(by rw [H0.out.1]; exact k0)) := List.getElem?_eq_getElem _
      obtain ⟨g0, o0, rfl, hc, hs⟩ := H0.out.2 k _ hz0
      generalize z0[k]'(by rw [H0.out.1]; exact k0) = z at hz0 hc hs
      have hg : g0 < w.heap.size := cell_lt hc
      have e0 : wr.cell? ⟨g0, o0 + k, none⟩ = some (.string z) := (hp.bel.cell (p := ⟨g0, o0 + k, none⟩) hg).trans hc
      have i1 : (0 : Int) ≤ (k : Int) := by omega
      have i2 : (k : Int) < n0 := by omega
      clear hz0 hc
      unfold maxLen at hs
      by_cases hbig : 1000 < z.size
      · have i3 : (1000 : Int) < z.size := by omega
        go_wp2_with fail
        obtain ⟨t, ht⟩ : ∃ t, t = z.extract 0 1000 := ⟨_, rfl⟩
        have hts : t.size ≤ 1000 := by rw [ht, cut_size z hbig]; exact Nat.le_refl _
        rw [← ht]
        clear ht i3 hbig
        refine (pw_write t (by unfold maxLen; omega) hp (by decide) (by decide)).mono ?_
        rintro e w4 ⟨rfl, p4⟩
        have hwl : (wrL l t).length = min (128 - l.length) t.size := by unfold wrL; rw [List.length_take, data_len]
        have hwd : wrL l t = t.data.toList.take (wrL l t).length := by
          rw [hwl]
          unfold wrL
          rw [← data_len t]
          rcases Nat.le_total (128 - l.length) t.data.toList.length with e | e
          · rw [Nat.min_eq_left e]
          · rw [Nat.min_eq_right e, List.take_of_length_le e, List.take_of_length_le (Nat.le_refl _)]
        clear hp e0
        obtain ⟨m, hm⟩ : ∃ m, m = (wrL l t).length := ⟨_, rfl⟩
        rw [← hm] at hwd hwl ⊢
        have hm0 : m ≤ t.size := by omega
        obtain ⟨l2, hl2⟩ : ∃ l2, l2 = l ++ wrL l t := ⟨_, rfl⟩
        rw [← hl2] at p4
        have hl2l : l2.length = l.length + m := by rw [hl2, List.length_append, hm]
        rw [hwd] at hl2
        have hL2 := Lib.hid (show l2.length ≤ 128 by omega)
        by_cases hmt : m < t.size
        · have hext : (t.extract 0 m).data.toList = t.data.toList.take m := ext_take _ _
          have hexs : (t.extract 0 m).size = m := by rw [← data_len, hext, List.length_take, data_len]; omega
          have hXD : (x ++ t.extract 0 m).data.toList = y.data.toList ++ l2 := by
            rw [show (x ++ t.extract 0 m).data.toList = x.data.toList ++ (t.extract 0 m).data.toList by simp [ByteArray.data_append], hext, HXY.out, hl2, List.append_assoc]
          have hXS : (x ++ t.extract 0 m).size = x.size + m := by rw [← data_len, hXD, List.length_append, hl2l, data_len]; omega
          have h128 : (x.size : Int) - (y.size : Int) + (m : Int) = 128 := by omega
          have hx2s : x.size + m ≤ 128 * (k + 1) := by omega
          have hXD' := Lib.hid hXD
          have hXS' := Lib.hid hXS
          have hexb : (t.extract 0 m).size ≤ 1000 := by omega
          clear hext hXD hXS hl2 hm hwd hl2l hwl hexs
          by_cases k1 : k < n1
          · have hz1 : z1[k]? = some (z1[k]'(by rw [H1.out.1]; exact k1)) := List.getElem?_eq_getElem _
            obtain ⟨g1, o1, rfl, hc1, hwf⟩ := H1.out.2 k _ hz1
            generalize z1[k]'(by rw [H1.out.1]; exact k1) = N at hz1 hc1 hwf
            have hg1 : g1 < w.heap.size := cell_lt hc1
            have e1 : w4.cell? ⟨g1, o1 + k, none⟩ = some (.int .i64 N) := (p4.bel.cell (p := ⟨g1, o1 + k, none⟩) hg1).trans hc1
            have i4 : (k : Int) < n1 := by omega
            clear hz1
            go_wp2_with fail
            obtain ⟨x2, hx2⟩ : ∃ x2, x2 = x ++ t.extract 0 m := ⟨_, rfl⟩
            rw [← hx2]
            have hX2 := Lib.hid hXD'.out
            have hx2s : x2.size ≤ 128 * (k + 1) := by rw [hx2, hXS'.out]; exact hx2s
            rw [← hx2] at hX2
            clear hx2 hXD' hXS'
            refine (pw_read N p4).mono ?_
            rintro e w5 ⟨rfl, p5⟩
            have e2 : w5.cell? ⟨g1, o1 + k, none⟩ = some (.int .i64 N) := (p5.bel.cell (p := ⟨g1, o1 + k, none⟩) hg1).trans hc1
            have hkk := readK_le N l2.length
            have hend : endB l2.length (readK N l2.length) 1 = false := by unfold endB; simp
            have hkN : (readK N l2.length : Int) ≤ max 0 N := by unfold readK; omega
            have hld : l2 = l2.take (readK N l2.length) ++ l2.drop (readK N l2.length) := (List.take_append_drop _ _).symm
            have hTl : (l2.take (readK N l2.length)).length = readK N l2.length := by rw [List.length_take]; omega
            rw [hend]
            clear e1 hc1 hend p4
            generalize readK N l2.length = kk at *
            obtain ⟨T, hT⟩ : ∃ T : ByteArray, T = ⟨(l2.take kk).toArray⟩ := ⟨_, rfl⟩
            rw [← hT]
            have hTd : T.data.toList = l2.take kk := by rw [hT]
            have hTs : T.size = kk := by rw [← data_len, hTd, hTl]
            obtain ⟨l3, hl3⟩ : ∃ l3, l3 = l2.drop kk := ⟨_, rfl⟩
            rw [← hl3] at p5 hld
            have hyT : (y ++ T).data.toList = y.data.toList ++ T.data.toList := by simp [ByteArray.data_append]
            have hx3 : x2.data.toList = (y ++ T).data.toList ++ l3 := by rw [hX2.out, hyT, hTd, List.append_assoc, ← hld]
            have hl2b := hL2.out
            have hTb : T.size ≤ 128 := by omega
            have hTN : (T.size : Int) ≤ max 0 N := by rw [hTs]; exact hkN
            have HX3' := Lib.hid hx3
            have P5 := Lib.hid p5
            clear hT hTd hTs hl3 hld hTl hkk hkN hyT hx3 p5
            by_cases i5 : 0 < N
            · have i6 : (T.size : Int) ≤ N := by omega
              clear hTN
              go_wp2_with fail
              obtain ⟨y2, hy2⟩ : ∃ y2, y2 = y ++ T := ⟨_, rfl⟩
              rw [← hy2]
              have hx3 := HX3'.out
              rw [← hy2] at hx3
              have px := P5.out
              clear hy2 HX3' P5
              have hyz : y2.size + l3.length = x2.size := by rw [← data_len x2, hx3, List.length_append, data_len]
              have hl3 := px.p.len
              have hsub : (x2.size : Int) - (y2.size : Int) = (l3.length : Int) := by omega
              have hl4 : ¬ (128 < (l3.length : Int)) := by omega
              have HX3 := Lib.hid hx3
              have HPX := Lib.hid px
              clear hx3 hyz px
              go_wp2_with fail
              refine (pw_state HPX.out).mono ?_
              rintro e w9 ⟨rfl, p9⟩
              have P9 := Lib.hid p9
              clear p9
              go_wp2
              go_roundw
              case rel => exact ⟨k + 1, x2, y2, l3, by go_num, by omega, rfl, rfl, HX3.out, hx2s, P9.out⟩
              case measure => simp [intOf]; omega
            · have i6 : (T.size : Int) ≤ 0 := by omega
              clear hTN
              go_wp2_with fail
              obtain ⟨y2, hy2⟩ : ∃ y2, y2 = y ++ T := ⟨_, rfl⟩
              rw [← hy2]
              have hx3 := HX3'.out
              rw [← hy2] at hx3
              have px := P5.out
              clear hy2 HX3' P5
              have hyz : y2.size + l3.length = x2.size := by rw [← data_len x2, hx3, List.length_append, data_len]
              have hl3 := px.p.len
              have hsub : (x2.size : Int) - (y2.size : Int) = (l3.length : Int) := by omega
              have hl4 : ¬ (128 < (l3.length : Int)) := by omega
              have HX3 := Lib.hid hx3
              have HPX := Lib.hid px
              clear hx3 hyz px
              go_wp2_with fail
              refine (pw_state HPX.out).mono ?_
              rintro e w9 ⟨rfl, p9⟩
              have P9 := Lib.hid p9
              clear p9
              go_wp2
              go_roundw
              case rel => exact ⟨k + 1, x2, y2, l3, by go_num, by omega, rfl, rfl, HX3.out, hx2s, P9.out⟩
              case measure => simp [intOf]; omega
          · have i4 : ¬ (k : Int) < n1 := by omega
            go_wp2_with fail
            obtain ⟨x2, hx2⟩ : ∃ x2, x2 = x ++ t.extract 0 m := ⟨_, rfl⟩
            rw [← hx2]
            have hX2 := Lib.hid hXD'.out
            have hx2s : x2.size ≤ 128 * (k + 1) := by rw [hx2, hXS'.out]; exact hx2s
            rw [← hx2] at hX2
            clear hx2 hXD' hXS'
            obtain ⟨y2, hy2⟩ : ∃ y2, y2 = y := ⟨_, rfl⟩
            have hx3 := hX2.out
            rw [← hy2] at hx3 ⊢
            obtain ⟨l3, hl3⟩ : ∃ l3, l3 = l2 := ⟨_, rfl⟩
            rw [← hl3] at hx3 p4
            have px := p4
            clear hy2 hl3 p4 hX2 hL2
            have hyz : y2.size + l3.length = x2.size := by rw [← data_len x2, hx3, List.length_append, data_len]
            have hl3 := px.p.len
            have hsub : (x2.size : Int) - (y2.size : Int) = (l3.length : Int) := by omega
            have hl4 : ¬ (128 < (l3.length : Int)) := by omega
            have HX3 := Lib.hid hx3
            have HPX := Lib.hid px
            clear hx3 hyz px
            go_wp2_with fail
            refine (pw_state HPX.out).mono ?_
            rintro e w9 ⟨rfl, p9⟩
            have P9 := Lib.hid p9
            clear p9
            go_wp2
            go_roundw
            case rel => exact ⟨k + 1, x2, y2, l3, by go_num, by omega, rfl, rfl, HX3.out, hx2s, P9.out⟩
            case measure => simp [intOf]; omega
        · obtain rfl : m = t.size := by omega
          have hXD : (x ++ t).data.toList = y.data.toList ++ l2 := by
            rw [show (x ++ t).data.toList = x.data.toList ++ t.data.toList by simp [ByteArray.data_append], HXY.out, hl2, List.append_assoc, List.take_of_length_le (by rw [data_len]; exact Nat.le_refl _)]
          have hXS : (x ++ t).size = x.size + t.size := by rw [← data_len, hXD, List.length_append, hl2l, data_len]; omega
          have hx2s : x.size + t.size ≤ 128 * (k + 1) := by omega
          have hXD' := Lib.hid hXD
          have hXS' := Lib.hid hXS
          clear hXD hXS hl2 hm hwd hl2l hwl hmt hm0
          by_cases k1 : k < n1
          · have hz1 : z1[k]? = some (z1[k]'(by rw [H1.out.1]; exact k1)) := List.getElem?_eq_getElem _
            obtain ⟨g1, o1, rfl, hc1, hwf⟩ := H1.out.2 k _ hz1
            generalize z1[k]'(by rw [H1.out.1]; exact k1) = N at hz1 hc1 hwf
            have hg1 : g1 < w.heap.size := cell_lt hc1
            have e1 : w4.cell? ⟨g1, o1 + k, none⟩ = some (.int .i64 N) := (p4.bel.cell (p := ⟨g1, o1 + k, none⟩) hg1).trans hc1
            have i4 : (k : Int) < n1 := by omega
            clear hz1
            go_wp2_with fail
            obtain ⟨x2, hx2⟩ : ∃ x2, x2 = x ++ t := ⟨_, rfl⟩
            rw [← hx2]
            have hX2 := Lib.hid hXD'.out
            have hx2s : x2.size ≤ 128 * (k + 1) := by rw [hx2, hXS'.out]; exact hx2s
            rw [← hx2] at hX2
            clear hx2 hXD' hXS'
            refine (pw_read N p4).mono ?_
            rintro e w5 ⟨rfl, p5⟩
            have e2 : w5.cell? ⟨g1, o1 + k, none⟩ = some (.int .i64 N) := (p5.bel.cell (p := ⟨g1, o1 + k, none⟩) hg1).trans hc1
            have hkk := readK_le N l2.length
            have hend : endB l2.length (readK N l2.length) 1 = false := by unfold endB; simp
            have hkN : (readK N l2.length : Int) ≤ max 0 N := by unfold readK; omega
            have hld : l2 = l2.take (readK N l2.length) ++ l2.drop (readK N l2.length) := (List.take_append_drop _ _).symm
            have hTl : (l2.take (readK N l2.length)).length = readK N l2.length := by rw [List.length_take]; omega
            rw [hend]
            clear e1 hc1 hend p4
            generalize readK N l2.length = kk at *
            obtain ⟨T, hT⟩ : ∃ T : ByteArray, T = ⟨(l2.take kk).toArray⟩ := ⟨_, rfl⟩
            rw [← hT]
            have hTd : T.data.toList = l2.take kk := by rw [hT]
            have hTs : T.size = kk := by rw [← data_len, hTd, hTl]
            obtain ⟨l3, hl3⟩ : ∃ l3, l3 = l2.drop kk := ⟨_, rfl⟩
            rw [← hl3] at p5 hld
            have hyT : (y ++ T).data.toList = y.data.toList ++ T.data.toList := by simp [ByteArray.data_append]
            have hx3 : x2.data.toList = (y ++ T).data.toList ++ l3 := by rw [hX2.out, hyT, hTd, List.append_assoc, ← hld]
            have hl2b := hL2.out
            have hTb : T.size ≤ 128 := by omega
            have hTN : (T.size : Int) ≤ max 0 N := by rw [hTs]; exact hkN
            have HX3' := Lib.hid hx3
            have P5 := Lib.hid p5
            clear hT hTd hTs hl3 hld hTl hkk hkN hyT hx3 p5
            by_cases i5 : 0 < N
            · have i6 : (T.size : Int) ≤ N := by omega
              clear hTN
              go_wp2_with fail
              obtain ⟨y2, hy2⟩ : ∃ y2, y2 = y ++ T := ⟨_, rfl⟩
              rw [← hy2]
              have hx3 := HX3'.out
              rw [← hy2] at hx3
              have px := P5.out
              clear hy2 HX3' P5
              have hyz : y2.size + l3.length = x2.size := by rw [← data_len x2, hx3, List.length_append, data_len]
              have hl3 := px.p.len
              have hsub : (x2.size : Int) - (y2.size : Int) = (l3.length : Int) := by omega
              have hl4 : ¬ (128 < (l3.length : Int)) := by omega
              have HX3 := Lib.hid hx3
              have HPX := Lib.hid px
              clear hx3 hyz px
              go_wp2_with fail
              refine (pw_state HPX.out).mono ?_
              rintro e w9 ⟨rfl, p9⟩
              have P9 := Lib.hid p9
              clear p9
              go_wp2
              go_roundw
              case rel => exact ⟨k + 1, x2, y2, l3, by go_num, by omega, rfl, rfl, HX3.out, hx2s, P9.out⟩
              case measure => simp [intOf]; omega
            · have i6 : (T.size : Int) ≤ 0 := by omega
              clear hTN
              go_wp2_with fail
              obtain ⟨y2, hy2⟩ : ∃ y2, y2 = y ++ T := ⟨_, rfl⟩
              rw [← hy2]
              have hx3 := HX3'.out
              rw [← hy2] at hx3
              have px := P5.out
              clear hy2 HX3' P5
              have hyz : y2.size + l3.length = x2.size := by rw [← data_len x2, hx3, List.length_append, data_len]
              have hl3 := px.p.len
              have hsub : (x2.size : Int) - (y2.size : Int) = (l3.length : Int) := by omega
              have hl4 : ¬ (128 < (l3.length : Int)) := by omega
              have HX3 := Lib.hid hx3
              have HPX := Lib.hid px
              clear hx3 hyz px
              go_wp2_with fail
              refine (pw_state HPX.out).mono ?_
              rintro e w9 ⟨rfl, p9⟩
              have P9 := Lib.hid p9
              clear p9
              go_wp2
              go_roundw
              case rel => exact ⟨k + 1, x2, y2, l3, by go_num, by omega, rfl, rfl, HX3.out, hx2s, P9.out⟩
              case measure => simp [intOf]; omega
          · have i4 : ¬ (k : Int) < n1 := by omega
            go_wp2_with fail
            obtain ⟨x2, hx2⟩ : ∃ x2, x2 = x ++ t := ⟨_, rfl⟩
            rw [← hx2]
            have hX2 := Lib.hid hXD'.out
            have hx2s : x2.size ≤ 128 * (k + 1) := by rw [hx2, hXS'.out]; exact hx2s
            rw [← hx2] at hX2
            clear hx2 hXD' hXS'
            obtain ⟨y2, hy2⟩ : ∃ y2, y2 = y := ⟨_, rfl⟩
            have hx3 := hX2.out
            rw [← hy2] at hx3 ⊢
            obtain ⟨l3, hl3⟩ : ∃ l3, l3 = l2 := ⟨_, rfl⟩
            rw [← hl3] at hx3 p4
            have px := p4
            clear hy2 hl3 p4 hX2 hL2
            have hyz : y2.size + l3.length = x2.size := by rw [← data_len x2, hx3, List.length_append, data_len]
            have hl3 := px.p.len
            have hsub : (x2.size : Int) - (y2.size : Int) = (l3.length : Int) := by omega
            have hl4 : ¬ (128 < (l3.length : Int)) := by omega
            have HX3 := Lib.hid hx3
            have HPX := Lib.hid px
            clear hx3 hyz px
            go_wp2_with fail
            refine (pw_state HPX.out).mono ?_
            rintro e w9 ⟨rfl, p9⟩
            have P9 := Lib.hid p9
            clear p9
            go_wp2
            go_roundw
            case rel => exact ⟨k + 1, x2, y2, l3, by go_num, by omega, rfl, rfl, HX3.out, hx2s, P9.out⟩
            case measure => simp [intOf]; omega
      · have i3 : ¬ (1000 : Int) < z.size := by omega
        go_wp2_with fail
        obtain ⟨t, rfl⟩ : ∃ t, t = z := ⟨z, rfl⟩
        have hts : t.size ≤ 1000 := by omega
        clear i3 hbig
        refine (pw_write t (by unfold maxLen; omega) hp (by decide) (by decide)).mono ?_
        rintro e w4 ⟨rfl, p4⟩
        have hwl : (wrL l t).length = min (128 - l.length) t.size := by unfold wrL; rw [List.length_take, data_len]
        have hwd : wrL l t = t.data.toList.take (wrL l t).length := by
          rw [hwl]
          unfold wrL
          rw [← data_len t]
          rcases Nat.le_total (128 - l.length) t.data.toList.length with e | e
          · rw [Nat.min_eq_left e]
          · rw [Nat.min_eq_right e, List.take_of_length_le e, List.take_of_length_le (Nat.le_refl _)]
        clear hp e0
        obtain ⟨m, hm⟩ : ∃ m, m = (wrL l t).length := ⟨_, rfl⟩
        rw [← hm] at hwd hwl ⊢
        have hm0 : m ≤ t.size := by omega
        obtain ⟨l2, hl2⟩ : ∃ l2, l2 = l ++ wrL l t := ⟨_, rfl⟩
        rw [← hl2] at p4
        have hl2l : l2.length = l.length + m := by rw [hl2, List.length_append, hm]
        rw [hwd] at hl2
        have hL2 := Lib.hid (show l2.length ≤ 128 by omega)
        by_cases hmt : m < t.size
        · have hext : (t.extract 0 m).data.toList = t.data.toList.take m := ext_take _ _
          have hexs : (t.extract 0 m).size = m := by rw [← data_len, hext, List.length_take, data_len]; omega
          have hXD : (x ++ t.extract 0 m).data.toList = y.data.toList ++ l2 := by
            rw [show (x ++ t.extract 0 m).data.toList = x.data.toList ++ (t.extract 0 m).data.toList by simp [ByteArray.data_append], hext, HXY.out, hl2, List.append_assoc]
          have hXS : (x ++ t.extract 0 m).size = x.size + m := by rw [← data_len, hXD, List.length_append, hl2l, data_len]; omega
          have h128 : (x.size : Int) - (y.size : Int) + (m : Int) = 128 := by omega
          have hx2s : x.size + m ≤ 128 * (k + 1) := by omega
          have hXD' := Lib.hid hXD
          have hXS' := Lib.hid hXS
          have hexb : (t.extract 0 m).size ≤ 1000 := by omega
          clear hext hXD hXS hl2 hm hwd hl2l hwl hexs
          by_cases k1 : k < n1
          · have hz1 : z1[k]? = some (z1[k]'(by rw [H1.out.1]; exact k1)) := List.getElem?_eq_getElem _
            obtain ⟨g1, o1, rfl, hc1, hwf⟩ := H1.out.2 k _ hz1
            generalize z1[k]'(by rw [H1.out.1]; exact k1) = N at hz1 hc1 hwf
            have hg1 : g1 < w.heap.size := cell_lt hc1
            have e1 : w4.cell? ⟨g1, o1 + k, none⟩ = some (.int .i64 N) := (p4.bel.cell (p := ⟨g1, o1 + k, none⟩) hg1).trans hc1
            have i4 : (k : Int) < n1 := by omega
            clear hz1
            go_wp2_with fail
            obtain ⟨x2, hx2⟩ : ∃ x2, x2 = x ++ t.extract 0 m := ⟨_, rfl⟩
            rw [← hx2]
            have hX2 := Lib.hid hXD'.out
            have hx2s : x2.size ≤ 128 * (k + 1) := by rw [hx2, hXS'.out]; exact hx2s
            rw [← hx2] at hX2
            clear hx2 hXD' hXS'
            refine (pw_read N p4).mono ?_
            rintro e w5 ⟨rfl, p5⟩
            have e2 : w5.cell? ⟨g1, o1 + k, none⟩ = some (.int .i64 N) := (p5.bel.cell (p := ⟨g1, o1 + k, none⟩) hg1).trans hc1
            have hkk := readK_le N l2.length
            have hend : endB l2.length (readK N l2.length) 1 = false := by unfold endB; simp
            have hkN : (readK N l2.length : Int) ≤ max 0 N := by unfold readK; omega
            have hld : l2 = l2.take (readK N l2.length) ++ l2.drop (readK N l2.length) := (List.take_append_drop _ _).symm
            have hTl : (l2.take (readK N l2.length)).length = readK N l2.length := by rw [List.length_take]; omega
            rw [hend]
            clear e1 hc1 hend p4
            generalize readK N l2.length = kk at *
            obtain ⟨T, hT⟩ : ∃ T : ByteArray, T = ⟨(l2.take kk).toArray⟩ := ⟨_, rfl⟩
            rw [← hT]
            have hTd : T.data.toList = l2.take kk := by rw [hT]
            have hTs : T.size = kk := by rw [← data_len, hTd, hTl]
            obtain ⟨l3, hl3⟩ : ∃ l3, l3 = l2.drop kk := ⟨_, rfl⟩
            rw [← hl3] at p5 hld
            have hyT : (y ++ T).data.toList = y.data.toList ++ T.data.toList := by simp [ByteArray.data_append]
            have hx3 : x2.data.toList = (y ++ T).data.toList ++ l3 := by rw [hX2.out, hyT, hTd, List.append_assoc, ← hld]
            have hl2b := hL2.out
            have hTb : T.size ≤ 128 := by omega
            have hTN : (T.size : Int) ≤ max 0 N := by rw [hTs]; exact hkN
            have HX3' := Lib.hid hx3
            have P5 := Lib.hid p5
            clear hT hTd hTs hl3 hld hTl hkk hkN hyT hx3 p5
            by_cases i5 : 0 < N
            · have i6 : (T.size : Int) ≤ N := by omega
              clear hTN
              go_wp2_with fail
              obtain ⟨y2, hy2⟩ : ∃ y2, y2 = y ++ T := ⟨_, rfl⟩
              rw [← hy2]
              have hx3 := HX3'.out
              rw [← hy2] at hx3
              have px := P5.out
              clear hy2 HX3' P5
              have hyz : y2.size + l3.length = x2.size := by rw [← data_len x2, hx3, List.length_append, data_len]
              have hl3 := px.p.len
              have hsub : (x2.size : Int) - (y2.size : Int) = (l3.length : Int) := by omega
              have hl4 : ¬ (128 < (l3.length : Int)) := by omega
              have HX3 := Lib.hid hx3
              have HPX := Lib.hid px
              clear hx3 hyz px
              go_wp2_with fail
              refine (pw_state HPX.out).mono ?_
              rintro e w9 ⟨rfl, p9⟩
              have P9 := Lib.hid p9
              clear p9
              go_wp2
              go_roundw
              case rel => exact ⟨k + 1, x2, y2, l3, by go_num, by omega, rfl, rfl, HX3.out, hx2s, P9.out⟩
              case measure => simp [intOf]; omega
            · have i6 : (T.size : Int) ≤ 0 := by omega
              clear hTN
              go_wp2_with fail
              obtain ⟨y2, hy2⟩ : ∃ y2, y2 = y ++ T := ⟨_, rfl⟩
              rw [← hy2]
              have hx3 := HX3'.out
              rw [← hy2] at hx3
              have px := P5.out
              clear hy2 HX3' P5
              have hyz : y2.size + l3.length = x2.size := by rw [← data_len x2, hx3, List.length_append, data_len]
              have hl3 := px.p.len
              have hsub : (x2.size : Int) - (y2.size : Int) = (l3.length : Int) := by omega
              have hl4 : ¬ (128 < (l3.length : Int)) := by omega
              have HX3 := Lib.hid hx3
              have HPX := Lib.hid px
              clear hx3 hyz px
              go_wp2_with fail
              refine (pw_state HPX.out).mono ?_
              rintro e w9 ⟨rfl, p9⟩
              have P9 := Lib.hid p9
              clear p9
              go_wp2
              go_roundw
              case rel => exact ⟨k + 1, x2, y2, l3, by go_num, by omega, rfl, rfl, HX3.out, hx2s, P9.out⟩
              case measure => simp [intOf]; omega
          · have i4 : ¬ (k : Int) < n1 := by omega
            go_wp2_with fail
            obtain ⟨x2, hx2⟩ : ∃ x2, x2 = x ++ t.extract 0 m := ⟨_, rfl⟩
            rw [← hx2]
            have hX2 := Lib.hid hXD'.out
            have hx2s : x2.size ≤ 128 * (k + 1) := by rw [hx2, hXS'.out]; exact hx2s
            rw [← hx2] at hX2
            clear hx2 hXD' hXS'
            obtain ⟨y2, hy2⟩ : ∃ y2, y2 = y := ⟨_, rfl⟩
            have hx3 := hX2.out
            rw [← hy2] at hx3 ⊢
            obtain ⟨l3, hl3⟩ : ∃ l3, l3 = l2 := ⟨_, rfl⟩
            rw [← hl3] at hx3 p4
            have px := p4
            clear hy2 hl3 p4 hX2 hL2
            have hyz : y2.size + l3.length = x2.size := by rw [← data_len x2, hx3, List.length_append, data_len]
            have hl3 := px.p.len
            have hsub : (x2.size : Int) - (y2.size : Int) = (l3.length : Int) := by omega
            have hl4 : ¬ (128 < (l3.length : Int)) := by omega
            have HX3 := Lib.hid hx3
            have HPX := Lib.hid px
            clear hx3 hyz px
            go_wp2_with fail
            refine (pw_state HPX.out).mono ?_
            rintro e w9 ⟨rfl, p9⟩
            have P9 := Lib.hid p9
            clear p9
            go_wp2
            go_roundw
            case rel => exact ⟨k + 1, x2, y2, l3, by go_num, by omega, rfl, rfl, HX3.out, hx2s, P9.out⟩
            case measure => simp [intOf]; omega
        · obtain rfl : m = t.size := by omega
          have hXD : (x ++ t).data.toList = y.data.toList ++ l2 := by
            rw [show (x ++ t).data.toList = x.data.toList ++ t.data.toList by simp [ByteArray.data_append], HXY.out, hl2, List.append_assoc, List.take_of_length_le (by rw [data_len]; exact Nat.le_refl _)]
          have hXS : (x ++ t).size = x.size + t.size := by rw [← data_len, hXD, List.length_append, hl2l, data_len]; omega
          have hx2s : x.size + t.size ≤ 128 * (k + 1) := by omega
          have hXD' := Lib.hid hXD
          have hXS' := Lib.hid hXS
          clear hXD hXS hl2 hm hwd hl2l hwl hmt hm0
          by_cases k1 : k < n1
          · have hz1 : z1[k]? = some (z1[k]'(by rw [H1.out.1]; exact k1)) := List.getElem?_eq_getElem _
            obtain ⟨g1, o1, rfl, hc1, hwf⟩ := H1.out.2 k _ hz1
            generalize z1[k]'(by rw [H1.out.1]; exact k1) = N at hz1 hc1 hwf
            have hg1 : g1 < w.heap.size := cell_lt hc1
            have e1 : w4.cell? ⟨g1, o1 + k, none⟩ = some (.int .i64 N) := (p4.bel.cell (p := ⟨g1, o1 + k, none⟩) hg1).trans hc1
            have i4 : (k : Int) < n1 := by omega
            clear hz1
            go_wp2_with fail
            obtain ⟨x2, hx2⟩ : ∃ x2, x2 = x ++ t := ⟨_, rfl⟩
            rw [← hx2]
            have hX2 := Lib.hid hXD'.out
            have hx2s : x2.size ≤ 128 * (k + 1) := by rw [hx2, hXS'.out]; exact hx2s
            rw [← hx2] at hX2
            clear hx2 hXD' hXS'
            refine (pw_read N p4).mono ?_
            rintro e w5 ⟨rfl, p5⟩
            have e2 : w5.cell? ⟨g1, o1 + k, none⟩ = some (.int .i64 N) := (p5.bel.cell (p := ⟨g1, o1 + k, none⟩) hg1).trans hc1
            have hkk := readK_le N l2.length
            have hend : endB l2.length (readK N l2.length) 1 = false := by unfold endB; simp
            have hkN : (readK N l2.length : Int) ≤ max 0 N := by unfold readK; omega
            have hld : l2 = l2.take (readK N l2.length) ++ l2.drop (readK N l2.length) := (List.take_append_drop _ _).symm
            have hTl : (l2.take (readK N l2.length)).length = readK N l2.length := by rw [List.length_take]; omega
            rw [hend]
            clear e1 hc1 hend p4
            generalize readK N l2.length = kk at *
            obtain ⟨T, hT⟩ : ∃ T : ByteArray, T = ⟨(l2.take kk).toArray⟩ := ⟨_, rfl⟩
            rw [← hT]
            have hTd : T.data.toList = l2.take kk := by rw [hT]
            have hTs : T.size = kk := by rw [← data_len, hTd, hTl]
            obtain ⟨l3, hl3⟩ : ∃ l3, l3 = l2.drop kk := ⟨_, rfl⟩
            rw [← hl3] at p5 hld
            have hyT : (y ++ T).data.toList = y.data.toList ++ T.data.toList := by simp [ByteArray.data_append]
            have hx3 : x2.data.toList = (y ++ T).data.toList ++ l3 := by rw [hX2.out, hyT, hTd, List.append_assoc, ← hld]
            have hl2b := hL2.out
            have hTb : T.size ≤ 128 := by omega
            have hTN : (T.size : Int) ≤ max 0 N := by rw [hTs]; exact hkN
            have HX3' := Lib.hid hx3
            have P5 := Lib.hid p5
            clear hT hTd hTs hl3 hld hTl hkk hkN hyT hx3 p5
            by_cases i5 : 0 < N
            · have i6 : (T.size : Int) ≤ N := by omega
              clear hTN
              go_wp2_with fail
              obtain ⟨y2, hy2⟩ : ∃ y2, y2 = y ++ T := ⟨_, rfl⟩
              rw [← hy2]
              have hx3 := HX3'.out
              rw [← hy2] at hx3
              have px := P5.out
              clear hy2 HX3' P5
              have hyz : y2.size + l3.length = x2.size := by rw [← data_len x2, hx3, List.length_append, data_len]
              have hl3 := px.p.len
              have hsub : (x2.size : Int) - (y2.size : Int) = (l3.length : Int) := by omega
              have hl4 : ¬ (128 < (l3.length : Int)) := by omega
              have HX3 := Lib.hid hx3
              have HPX := Lib.hid px
              clear hx3 hyz px
              go_wp2_with fail
              refine (pw_state HPX.out).mono ?_
              rintro e w9 ⟨rfl, p9⟩
              have P9 := Lib.hid p9
              clear p9
              go_wp2
              go_roundw
              case rel => exact ⟨k + 1, x2, y2, l3, by go_num, by omega, rfl, rfl, HX3.out, hx2s, P9.out⟩
              case measure => simp [intOf]; omega
            · have i6 : (T.size : Int) ≤ 0 := by omega
              clear hTN
              go_wp2_with fail
              obtain ⟨y2, hy2⟩ : ∃ y2, y2 = y ++ T := ⟨_, rfl⟩
              rw [← hy2]
              have hx3 := HX3'.out
              rw [← hy2] at hx3
              have px := P5.out
              clear hy2 HX3' P5
              have hyz : y2.size + l3.length = x2.size := by rw [← data_len x2, hx3, List.length_append, data_len]
              have hl3 := px.p.len
              have hsub : (x2.size : Int) - (y2.size : Int) = (l3.length : Int) := by omega
              have hl4 : ¬ (128 < (l3.length : Int)) := by omega
              have HX3 := Lib.hid hx3
              have HPX := Lib.hid px
              clear hx3 hyz px
              go_wp2_with fail
              refine (pw_state HPX.out).mono ?_
              rintro e w9 ⟨rfl, p9⟩
              have P9 := Lib.hid p9
              clear p9
              go_wp2
              go_roundw
              case rel => exact ⟨k + 1, x2, y2, l3, by go_num, by omega, rfl, rfl, HX3.out, hx2s, P9.out⟩
              case measure => simp [intOf]; omega
          · have i4 : ¬ (k : Int) < n1 := by omega
            go_wp2_with fail
            obtain ⟨x2, hx2⟩ : ∃ x2, x2 = x ++ t := ⟨_, rfl⟩
            rw [← hx2]
            have hX2 := Lib.hid hXD'.out
            have hx2s : x2.size ≤ 128 * (k + 1) := by rw [hx2, hXS'.out]; exact hx2s
            rw [← hx2] at hX2
            clear hx2 hXD' hXS'
            obtain ⟨y2, hy2⟩ : ∃ y2, y2 = y := ⟨_, rfl⟩
            have hx3 := hX2.out
            rw [← hy2] at hx3 ⊢
            obtain ⟨l3, hl3⟩ : ∃ l3, l3 = l2 := ⟨_, rfl⟩
            rw [← hl3] at hx3 p4
            have px := p4
            clear hy2 hl3 p4 hX2 hL2
            have hyz : y2.size + l3.length = x2.size := by rw [← data_len x2, hx3, List.length_append, data_len]
            have hl3 := px.p.len
            have hsub : (x2.size : Int) - (y2.size : Int) = (l3.length : Int) := by omega
            have hl4 : ¬ (128 < (l3.length : Int)) := by omega
            have HX3 := Lib.hid hx3
            have HPX := Lib.hid px
            clear hx3 hyz px
            go_wp2_with fail
            refine (pw_state HPX.out).mono ?_
            rintro e w9 ⟨rfl, p9⟩
            have P9 := Lib.hid p9
            clear p9
            go_wp2
            go_roundw
            case rel => exact ⟨k + 1, x2, y2, l3, by go_num, by omega, rfl, rfl, HX3.out, hx2s, P9.out⟩
            case measure => simp [intOf]; omega
    · by_cases hn : k < n0
      · have i3 : ¬ (k : Int) < 60 := by omega
        have i4 : (k : Int) < n0 := by omega
        go_wp2_with fail
        refine (en_leave true hp (by decide) (by decide) true 1 0 rfl rfl rfl).mono ?_
        rintro e w4 ⟨rfl, p4⟩
        go_wp2_with fail
        refine (pw_read 1000 p4).mono ?_
        rintro e w5 ⟨rfl, p5⟩
        have ek : readK 1000 l.length = l.length := by unfold readK; omega
        have ee : endB l.length l.length 0 = true := by unfold endB; simp
        rw [ek, ee, List.take_length]
        obtain ⟨T, hT⟩ : ∃ T : ByteArray, T = ⟨l.toArray⟩ := ⟨_, rfl⟩
        rw [← hT]
        have hyT : y ++ T = x := by
          apply ByteArray.ext
          apply Array.toList_inj.1
          rw [HXY.out, show (y ++ T).data.toList = y.data.toList ++ T.data.toList by simp [ByteArray.data_append], hT]
        have hTs : T.size ≤ 128 := by rw [← data_len, hT]; exact hl
        have B5 := Lib.hid p5.bel
        clear ek ee hT p4 p5 hp
        go_wp2
        go_ret
        exact ⟨ret_bool (by simp), B5.out⟩
      · have i4 : ¬ (k : Int) < n0 := by omega
        go_wp2_with fail
        refine (en_leave true hp (by decide) (by decide) true 1 0 rfl rfl rfl).mono ?_
        rintro e w4 ⟨rfl, p4⟩
        go_wp2_with fail
        refine (pw_read 1000 p4).mono ?_
        rintro e w5 ⟨rfl, p5⟩
        have ek : readK 1000 l.length = l.length := by unfold readK; omega
        have ee : endB l.length l.length 0 = true := by unfold endB; simp
        rw [ek, ee, List.take_length]
        obtain ⟨T, hT⟩ : ∃ T : ByteArray, T = ⟨l.toArray⟩ := ⟨_, rfl⟩
        rw [← hT]
        have hyT : y ++ T = x := by
          apply ByteArray.ext
          apply Array.toList_inj.1
          rw [HXY.out, show (y ++ T).data.toList = y.data.toList ++ T.data.toList by simp [ByteArray.data_append], hT]
        have hTs : T.size ≤ 128 := by rw [← data_len, hT]; exact hl
        have B5 := Lib.hid p5.bel
        clear ek ee hT p4 p5 hp
        go_wp2
        go_ret
        exact ⟨ret_bool (by simp), B5.out⟩
end Go.Proofs.Ythgjhpiajjamnaa
