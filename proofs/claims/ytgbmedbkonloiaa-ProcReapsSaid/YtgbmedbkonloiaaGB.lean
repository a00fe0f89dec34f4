/- The walk of ProcReaps. -/
import Derived.Test.YtgbmedbkonloiaaGA
namespace Go.Proofs.Ytgbmedbkonloiaa
open Go.RowKit
set_option linter.unusedVariables false
set_option linter.unusedSimpArgs false
set_option maxHeartbeats 8000000 in
set_option maxRecDepth 100000 in
theorem reaps_any (p0 : Option Addr) (n0 c0 : Nat) (z0 : List OpP) (w : World) (h0 : InOps w p0 n0 z0) (l0 : n0 ≤ maxLen) :
    Calls Try.prog 5 #[.slice p0 n0 c0] w fun e w' => e = .returned (.bool true) ∧ Below w.heap.size w w' := by
  have H0 := Lib.hid h0
  unfold maxLen at l0
  clear h0
  go_enter Try.func5, Try.ntmps5
  go_wp2_with fail
  refine (shown_any w).mono ?_
  rintro e w1 ⟨rfl, b1⟩
  go_wp2_with fail
  refine (tl_new b1).mono ?_
  rintro e w2 ⟨T, rfl, p2⟩
  have H2 := Lib.hid (td_new p2 (by decide))
  clear p2 b1
  go_wp2_with fail
  refine H2.out.mono ?_
  rintro e w3 ⟨D, rfl, p3⟩
  have H3 := Lib.hid p3
  clear p3 H2
  go_wp2
  go_loopw [6] (fun iv wr => stepRel w T D 100 iv wr) (fun iv _ => 100 - (Lib.intOf iv).toNat)
  case atStart => exact ⟨0, new0, rfl, by decide, H3.out⟩
  case round =>
    obtain ⟨k, s, rfl, hk, hT⟩ := hrel
    clear H3
    by_cases hlt : k < n0 ∧ k < 100
    · obtain ⟨k0, k2⟩ := hlt
      have hz0 : z0[k]? = some (z0[k]'(by rw [H0.out.1]; exact k0)) := List.getElem?_eq_getElem _
      obtain ⟨ok, g0, o0, rfl, hc⟩ := H0.out.2 k _ hz0
      generalize z0[k]'(by rw [H0.out.1]; exact k0) = z at hz0 ok hc
      have hg : g0 < w.heap.size := cell_lt (hc 0 _ rfl)
      have e0 : wr.cell? ⟨g0, o0 + k * 4, none⟩ = some (.int .i64 z.kind) := (hT.bel.cell (p := ⟨g0, o0 + k * 4, none⟩) hg).trans (hc 0 _ rfl)
      have e1 : wr.cell? ⟨g0, o0 + k * 4 + 1, none⟩ = some (.int .i64 z.a) := (hT.bel.cell (p := ⟨g0, o0 + k * 4 + 1, none⟩) hg).trans (hc 1 _ rfl)
      have e2 : wr.cell? ⟨g0, o0 + k * 4 + 2, none⟩ = some (.int .i64 z.b) := (hT.bel.cell (p := ⟨g0, o0 + k * 4 + 2, none⟩) hg).trans (hc 2 _ rfl)
      have e3 : wr.cell? ⟨g0, o0 + k * 4 + 3, none⟩ = some (.bool z.on) := (hT.bel.cell (p := ⟨g0, o0 + k * 4 + 3, none⟩) hg).trans (hc 3 _ rfl)
      have i1 : (0 : Int) ≤ (k : Int) := by omega
      have i2 : (k : Int) < n0 := by omega
      have i3 : (k : Int) < 100 := by omega
      have HD := Lib.hid (does_any z ok (by omega) hT)
      generalize opP z s = s2 at *
      clear hz0 hc hT ok
      go_wp2_with fail
      refine HD.out.mono ?_
      rintro e w4 ⟨rfl, h4, -⟩
      have H4 := Lib.hid h4
      clear HD e0 e1 e2 e3 h4
      go_wp2
      go_roundw
      case rel => exact ⟨k + 1, s2, by go_num, by omega, by rw [show (1 + 2 * ((k + 1 : Nat) : Int)) = 1 + 2 * (k : Int) + 2 by omega]; exact H4.out⟩
      case measure => simp [Lib.intOf]; omega
    · have hend : (k : Int) < n0 ∧ ¬ (k : Int) < 100 ∨ ¬ (k : Int) < n0 := by omega
      have HA := Lib.hid (tp_all hT (by omega))
      have HT := Lib.hid hT
      have hlen := hT.sds.len53
      have hone := one_len hT.sds
      have HSD := Lib.hid hT.sds
      clear hT hlt
      rcases hend with ⟨i1, i2⟩ | i1
      all_goals
        go_wp2_with fail
        refine HA.out.mono ?_
        rintro e w5 ⟨v, rfl, hrow, h5, f5⟩
        have H5 := Lib.hid (h5.row hrow f5 HT.out (Nat.le_refl _)).tk
        have HROW := Lib.hid hrow
        obtain ⟨ao, cap, hv, -⟩ := ownG_form0 hrow
        subst hv
        generalize wr.heap.size = B at *
        clear HA hrow h5 f5 HT
        go_wp2_with fail
        go_loopw [8] (fun iv wr => exiRel w T (1 + 2 * k) s.L (.slice ao s.L.length cap) B iv wr) (fun iv _ => s.L.length - (Lib.intOf iv).toNat)
        case atStart => exact ⟨1, s, rfl, Nat.le_refl _, hone, Ex.start, HROW.out, H5.out⟩
        case round =>
          obtain ⟨j, s', rfl, hj1, hj, hEx, hrow, hT⟩ := hrel
          clear H5 HROW
          by_cases hjl : j < s.L.length
          · have hp : s.L[j]? = some (s.L[j]'hjl) := List.getElem?_eq_getElem _
            have hmem : s.L[j]'hjl ∈ s.L := List.getElem_mem _
            generalize s.L[j]'hjl = p at hp hmem
            obtain ⟨g, cap', hv, hg1, hg2⟩ := hrow.form (by omega)
            cases hv
            have hcs := row_cells hrow hp
            have q0 : wr.cell? ⟨g, j * 7, none⟩ = some (.int .i64 p.pid) := hcs 0 _ rfl
            have q5 : wr.cell? ⟨g, j * 7 + 5, none⟩ = some (.bool p.dead) := hcs 5 _ rfl
            have m1 : (0 : Int) ≤ (j : Int) := by omega
            have m2 : (j : Int) < (s.L.length : Int) := by omega
            have HRW := Lib.hid hrow
            have HTT := Lib.hid hT
            have d0 : wr.drew.cell? ⟨g, j * 7, none⟩ = some (.int .i64 p.pid) := q0
            have d5 : wr.drew.cell? ⟨g, j * 7 + 5, none⟩ = some (.bool p.dead) := q5
            cases hd : p.dead
            · rw [hd] at q5 d5
              obtain ⟨x1, x2⟩ := hEx.exit hT.sd hp hd hj1 HSD.out.asc
              obtain ⟨r1, r2⟩ := HSD.out.rng p hmem
              have hlast := hT.lb
              obtain ⟨p', y1, y2, -, -⟩ := hEx.at_ j p hp
              have hr2 := (hT.sd.rng p' (List.mem_of_getElem? y1)).2
              rw [y2] at hr2
              have hpid : I64 p.pid := ⟨by omega, by omega⟩
              have hE := tk_exit p.pid p.pid hpid (hT.fresh (W' := wr.drew) (Fr.refl _ _).drew)
              rw [x1] at hE
              have HE := Lib.hid hE
              have HX := Lib.hid x2
              clear hcs hT hrow hmem hp hE hEx x1 x2 y1 y2 hr2 hlast r1 r2 hd
              go_wp2_with fail
              go_region_held3 (fun w' => w'.cell? ⟨g, j * 7, none⟩ = some (.int .i64 p.pid) ∧ w'.cell? ⟨g, j * 7 + 5, none⟩ = some (.bool false))
                (first | exact ⟨d0, d5⟩ | exact ⟨z0, z5⟩)
                (first
                  | (go_at_call 18; (refine HE.out.mono ?_); rintro e w6 ⟨rfl, h6, f6⟩; have z0 := f6.cell d0 (fun hn => hn rfl); have z5 := f6.cell d5 (fun hn => hn rfl)))
              all_goals
                have H6 := Lib.hid h6
                have HR6 := Lib.hid (ownG_fr0 (ownG_fr HRW.out (Fr.refl (fun _ => False) wr).drew fun _ _ => id) f6)
                clear h6 f6 z0 z5 d0 d5 q0 q5 HE
                go_wp2
                go_roundw
                case rel => exact ⟨j + 1, _, by go_num, by omega, by omega, HX.out, HR6.out, H6.out⟩
                case measure => simp [Lib.intOf]; omega
            · rw [hd] at q5 d5
              have HX := Lib.hid (hEx.skip hp hd)
              clear hcs hT hrow hmem hp hEx hd
              go_wp2_with fail
              go_quiet (fail)
              go_wp2
              go_roundw
              case rel => exact ⟨j + 1, _, by go_num, by omega, by omega, HX.out, ownG_fr HRW.out ((Fr.refl (fun _ => False) wr).drewN _) fun _ _ => id, HTT.out.fresh ((Fr.refl _ _).drewN _)⟩
              case measure => simp [Lib.intOf]; omega
          · have hjn : j = s.L.length := by omega
            subst hjn
            have m2 : ¬ (s.L.length : Int) < (s.L.length : Int) := by omega
            have HAL := Lib.hid (hEx.al hT.sd)
            have HEX := Lib.hid hEx
            have HRW := Lib.hid hrow
            have HTT := Lib.hid hT
            clear hEx hT hrow
            go_wp2_with fail
            go_loopw [9] (fun iv wr => reapRel w T (1 + 2 * k) s.L s'.L (.slice ao s.L.length cap) B iv wr) (fun iv _ => s.L.length - (Lib.intOf iv).toNat)
            case atStart => exact ⟨1, s', rfl, Nat.le_refl _, hone, HAL.out, (List.take_append_drop 1 _).symm, HRW.out, HTT.out⟩
            case round =>
              obtain ⟨i, s3, rfl, hi1, hi, hAl, hL3, hrow, hT⟩ := hrel
              clear HRW HTT
              by_cases hil : i < s.L.length
              · have hp : s.L[i]? = some (s.L[i]'hil) := List.getElem?_eq_getElem _
                generalize s.L[i]'hil = p at hp
                obtain ⟨p', y1, y2, y3, y4⟩ := HEX.out.at_ i p hp
                have h1 : s3.L[1]? = some p' := by
                  have hl1 := HEX.out.len
                  have et : (s'.L.take 1).length = 1 := by rw [List.length_take]; omega
                  rw [hL3, List.getElem?_append_right (by omega), et, Nat.sub_self, List.getElem?_drop, Nat.add_zero, y1]
                obtain ⟨v1, v2, v3⟩ := hAl.wait h1
                have hL4 : (waitT s3 1 0).L = s'.L.take 1 ++ s'.L.drop (i + 1) := by
                  have hl1 := HEX.out.len
                  have et : (s'.L.take 1).length = 1 := by rw [List.length_take]; omega
                  rw [v2, hL3, List.take_append_of_le_length (by omega), List.take_take, Nat.min_self]
                  congr 1
                  rw [List.drop_append, List.drop_of_length_le (by omega), List.nil_append, et, List.drop_drop]
                obtain ⟨g, cap', hv, hg1, hg2⟩ := hrow.form (by omega)
                cases hv
                have hcs := row_cells hrow hp
                have q0 : wr.cell? ⟨g, i * 7, none⟩ = some (.int .i64 p.pid) := hcs 0 _ rfl
                have q5 : wr.cell? ⟨g, i * 7 + 5, none⟩ = some (.bool p.dead) := hcs 5 _ rfl
                have m1 : (0 : Int) ≤ (i : Int) := by omega
                have m3 : (i : Int) < (s.L.length : Int) := by omega
                have hW := tk_wait 1 0 (i64_small _ (by decide) (by decide)) (by omega) hT
                rw [v1, y2] at hW
                unfold w3V at hW
                have HRW := Lib.hid hrow
                have HV := Lib.hid v3
                have HL4 := Lib.hid hL4
                have hst : p.dead = false → p'.status = p.pid := fun hd => y4 hd hi1 (by omega)
                generalize p'.status = stt at *
                have Q0 := Lib.hid q0
                have Q5 := Lib.hid q5
                have HWW := Lib.hid hW
                clear hcs hT hrow hp hAl hL3 h1 v1 v2 v3 y1 y2 y3 y4 hW hL4 q0 q5
                cases hd : p.dead
                · have hs2 := hst hd
                  subst hs2
                  rw [hd] at Q5
                  clear hst hd
                  go_wp2_with (go_at_call 19; refine HWW.out.mono ?_; rintro e w7 ⟨rfl, h7, f7⟩; have z0 := f7.cell Q0.out (fun hn => hn rfl); have z5 := f7.cell Q5.out (fun hn => hn rfl); have H7 := Lib.hid h7; have HR7 := Lib.hid (ownG_fr0 HRW.out f7); clear h7; go_frame)
                  go_roundw
                  case rel => exact ⟨i + 1, _, by go_num, by omega, by omega, HV.out, HL4.out, HR7.out, H7.out⟩
                  case measure => simp [Lib.intOf]; omega
                · rw [hd] at Q5
                  clear hst hd
                  go_wp2_with (go_at_call 19; refine HWW.out.mono ?_; rintro e w7 ⟨rfl, h7, f7⟩; have z0 := f7.cell Q0.out (fun hn => hn rfl); have z5 := f7.cell Q5.out (fun hn => hn rfl); have H7 := Lib.hid h7; have HR7 := Lib.hid (ownG_fr0 HRW.out f7); clear h7; go_frame)
                  go_roundw
                  case rel => exact ⟨i + 1, _, by go_num, by omega, by omega, HV.out, HL4.out, HR7.out, H7.out⟩
                  case measure => simp [Lib.intOf]; omega
              · have hin : i = s.L.length := by omega
                have hl3 : s3.L.length = 1 := by
                  rw [hL3, hin, ← HEX.out.len, List.drop_length, List.append_nil, List.length_take, HEX.out.len]; omega
                obtain ⟨v1, v2⟩ := hAl.last hl3
                have hW := tk_wait 1 0 (i64_small _ (by decide) (by decide)) (by omega) hT
                rw [v1, v2] at hW
                unfold w3V at hW
                have HWW := Lib.hid hW
                have hAA := fun wz (hz : TK (fun k => (Value.slice ao s.L.length cap).ownBlock = some k) w wz T (1 + 2 * k) s3) => tk_all (by omega) hz
                rw [hl3] at hAA
                have HAA := Lib.hid hAA
                have m3 : ¬ (i : Int) < (s.L.length : Int) := by omega
                clear hT hrow hAl hL3 hl3 v1 v2 hW hin hAA
                go_wp2_with fail
                refine HWW.out.mono ?_
                rintro e w7 ⟨rfl, h7, -⟩
                have HB := Lib.hid (HAA.out _ h7)
                clear h7
                go_wp2_with (go_at_call 16; refine HB.out.mono ?_; rintro e w8 ⟨v, rfl, ho, h8⟩; obtain ⟨ao', cap2, rfl, -⟩ := ownG_form0 ho)
                go_ret
                exact ⟨rfl, h8.bel⟩
end Go.Proofs.Ytgbmedbkonloiaa
