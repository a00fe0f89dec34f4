/- The walk of ProcPlays. -/
import Derived.Test.YtgbmedbkonloiaaGC
namespace Go.Proofs.Ytgbmedbkonloiaa
open Go.RowKit
set_option linter.unusedVariables false
set_option linter.unusedSimpArgs false
set_option maxHeartbeats 8000000 in
set_option maxRecDepth 100000 in
theorem plays_any (p0 : Option Addr) (n0 c0 : Nat) (z0 : List OpP) (w : World) (h0 : InOps w p0 n0 z0) (l0 : n0 ≤ maxLen) :
    Calls Try.prog 3 #[.slice p0 n0 c0] w fun e w' => e = .returned (.bool true) ∧ Below w.heap.size w w' := by
  have H0 := Lib.hid h0
  unfold maxLen at l0
  clear h0
  go_enter Try.func3, Try.ntmps3
  go_wp2_with fail
  refine (shown_any w).mono ?_
  rintro e w1 ⟨rfl, b1⟩
  go_wp2_with fail
  refine (tl_new b1).mono ?_
  rintro e w2 ⟨T, rfl, p2⟩
  have H2 := Lib.hid (td_new p2 (by decide))
  clear p2 b1
  go_wp2_with fail
  refine H2.out.mono ?_
  rintro e w3 ⟨D, rfl, p3⟩
  have H3 := Lib.hid p3
  clear p3 H2
  go_wp2
  go_loopw [6] (fun iv wr => plRel w T D 200 iv wr) (fun iv _ => 200 - (Lib.intOf iv).toNat)
  case atStart => exact ⟨0, new0, rfl, by decide, H3.out⟩
  case round =>
    obtain ⟨k, s, rfl, hk, hT⟩ := hrel
    clear H3
    by_cases hlt : k < n0 ∧ k < 200
    · obtain ⟨k0, k2⟩ := hlt
      have hz0 : z0[k]? = some (z0[k]'(by rw [H0.out.1]; exact k0)) := List.getElem?_eq_getElem _
      obtain ⟨ok, g0, o0, rfl, hc⟩ := H0.out.2 k _ hz0
      generalize z0[k]'(by rw [H0.out.1]; exact k0) = z at hz0 ok hc
      have hg : g0 < w.heap.size := cell_lt (hc 0 _ rfl)
      have e0 : wr.cell? ⟨g0, o0 + k * 4, none⟩ = some (.int .i64 z.kind) := (hT.bel.cell (p := ⟨g0, o0 + k * 4, none⟩) hg).trans (hc 0 _ rfl)
      have e1 : wr.cell? ⟨g0, o0 + k * 4 + 1, none⟩ = some (.int .i64 z.a) := (hT.bel.cell (p := ⟨g0, o0 + k * 4 + 1, none⟩) hg).trans (hc 1 _ rfl)
      have e2 : wr.cell? ⟨g0, o0 + k * 4 + 2, none⟩ = some (.int .i64 z.b) := (hT.bel.cell (p := ⟨g0, o0 + k * 4 + 2, none⟩) hg).trans (hc 2 _ rfl)
      have e3 : wr.cell? ⟨g0, o0 + k * 4 + 3, none⟩ = some (.bool z.on) := (hT.bel.cell (p := ⟨g0, o0 + k * 4 + 3, none⟩) hg).trans (hc 3 _ rfl)
      have i1 : (0 : Int) ≤ (k : Int) := by omega
      have i2 : (k : Int) < n0 := by omega
      have i3 : (k : Int) < 200 := by omega
      obtain ⟨V, hV⟩ : ∃ V, V = wr.alloc (.cells #[.int .i64 z.kind, .int .i64 z.a, .int .i64 z.b, .bool z.on] 29) := ⟨_, rfl⟩
      obtain ⟨G0, hG0⟩ : ∃ G, G = wr.heap.size := ⟨_, rfl⟩
      have v1 : V.cell? ⟨G0, 1, none⟩ = some (.int .i64 z.a) := hG0 ▸ hV ▸ op_new wr _ _ (j := 1) rfl
      have v2 : V.cell? ⟨G0, 2, none⟩ = some (.int .i64 z.b) := hG0 ▸ hV ▸ op_new wr _ _ (j := 2) rfl
      have hTV : TP (· = G0) w V T D (1 + 2 * k) s s := hT.keep (hV ▸ (Fr.refl _ wr).alloc _) fun j hj => ⟨.inr (by omega), by rw [hj, hG0, hV]; simp⟩
      have HD := Lib.hid (does_any z ok (by omega) hTV)
      have hIa : I64 z.a := ok.a
      have HGA := Lib.hid fun (wz : World) (x : TB) (hz : TP (· = G0) w wz T D (1 + 2 * k + 2) x x) => tp_get hz (by omega) z.a hIa
      have HGD0 := Lib.hid fun (wz : World) (x : TB) (hz : TP (· = G0) w wz T D (1 + 2 * k + 2) x x) => td_get hz (by omega) z.a hIa
      have HCA := Lib.hid fun (wz : World) (x : TB) (hz : TP (· = G0) w wz T D (1 + 2 * k + 2) x x) => tp_count hz (by omega) z.b
      have HCD := Lib.hid fun (wz : World) (x : TB) (hz : TP (· = G0) w wz T D (1 + 2 * k + 2) x x) => td_count hz (by omega) z.b
      have HKN := Lib.hid fun (wz : World) (x : TB) (hz : TP (· = G0) w wz T D (1 + 2 * k + 2) x x) => tp_known hz
      have HAL := Lib.hid fun (wz : World) (x : TB) (hz : TP (· = G0) w wz T D (1 + 2 * k + 2) x x) => tp_all hz (by omega)
      generalize opP z s = s2 at *
      have HGD := fun (wz : World) (hz : TP (· = G0) w wz T D (1 + 2 * k + 2) s2 s2) => HGD0.out wz s2 hz
      clear hz0 hc hT ok hTV HGD0
      go_wp2_with fail
      rw [← hG0, ← hV]
      refine HD.out.mono ?_
      rintro e w4 ⟨rfl, h4, f4⟩
      have u1 := kept_cell f4 rfl v1
      have u2 := kept_cell f4 rfl v2
      have H4 := Lib.hid h4
      clear HD e0 e1 e2 e3 v1 v2 f4 hV h4 hG0
      go_wp2_with fail
      refine (HGA.out _ _ H4.out).mono ?_
      unfold getV
      obtain ⟨P, hP⟩ : ∃ P, P = getP s2.L z.a := ⟨_, rfl⟩
      obtain ⟨b, hb⟩ : ∃ b, b = (atP s2.L z.a).isSome := ⟨_, rfl⟩
      unfold getV at HGD
      rw [← hP, ← hb] at HGD ⊢
      obtain ⟨a0, a1, a2, a3, a4, a5, a6⟩ := P
      unfold prA prC at HGD ⊢
      simp only at HGD ⊢
      rintro e w5 ⟨rfl, h5, f5⟩
      have t1 := f5.cell u1 id
      have t2 := f5.cell u2 id
      have hlt5 := cell_lt t1
      -- the first answer in a box
      obtain ⟨V5, hV5⟩ : ∃ V, V = w5.alloc (.cells #[.int .i64 a0, .int .i64 a1, .int .i64 a2, .int .i64 a3, .int .i64 a4, .bool a5, .bool a6] 32) := ⟨_, rfl⟩
      have H5 := Lib.hid (h5.fresh (hV5 ▸ (Fr.refl _ w5).alloc _))
      have x0 : V5.cell? ⟨w5.heap.size, 0, none⟩ = some (.int .i64 a0) := hV5 ▸ op_new w5 _ _ (j := 0) rfl
      have x1 : V5.cell? ⟨w5.heap.size, 1, none⟩ = some (.int .i64 a1) := hV5 ▸ op_new w5 _ _ (j := 1) rfl
      have x2 : V5.cell? ⟨w5.heap.size, 2, none⟩ = some (.int .i64 a2) := hV5 ▸ op_new w5 _ _ (j := 2) rfl
      have x3 : V5.cell? ⟨w5.heap.size, 3, none⟩ = some (.int .i64 a3) := hV5 ▸ op_new w5 _ _ (j := 3) rfl
      have x4 : V5.cell? ⟨w5.heap.size, 4, none⟩ = some (.int .i64 a4) := hV5 ▸ op_new w5 _ _ (j := 4) rfl
      have x5 : V5.cell? ⟨w5.heap.size, 5, none⟩ = some (.bool a5) := hV5 ▸ op_new w5 _ _ (j := 5) rfl
      have x6 : V5.cell? ⟨w5.heap.size, 6, none⟩ = some (.bool a6) := hV5 ▸ op_new w5 _ _ (j := 6) rfl
      have y1 : V5.cell? ⟨G0, 1, none⟩ = some (.int .i64 z.a) := hV5 ▸ Fr.cell (S := fun _ => False) ((Fr.refl _ w5).alloc _) t1 id
      have y2 : V5.cell? ⟨G0, 2, none⟩ = some (.int .i64 z.b) := hV5 ▸ Fr.cell (S := fun _ => False) ((Fr.refl _ w5).alloc _) t2 id
      have HGD5 := Lib.hid (HGD _ H5.out)
      clear HGA HGD u1 u2 f5 h5 H4 hP hb
      go_wp2_with fail
      rw [← hV5]
      clear hV5 t1 t2 hlt5
      generalize w5.heap.size = G1 at *
      refine HGD5.out.mono ?_
      rintro e w6 ⟨rfl, h6, f6⟩
      obtain ⟨V6, hV6⟩ : ∃ V, V = w6.alloc (.cells #[.int .i64 a0, .int .i64 a1, .int .i64 a2, .int .i64 a3, .int .i64 a4, .bool a5, .bool a6] 35) := ⟨_, rfl⟩
      have f6' : Fr (fun _ => False) V5 V6 := f6.trans (hV6 ▸ (Fr.refl _ w6).alloc _)
      have H6 := Lib.hid (h6.fresh (hV6 ▸ (Fr.refl _ w6).alloc _))
      have X : (V6.cell? ⟨G1, 0, none⟩ = some (.int .i64 a0) ∧ V6.cell? ⟨G1, 1, none⟩ = some (.int .i64 a1) ∧ V6.cell? ⟨G1, 2, none⟩ = some (.int .i64 a2) ∧ V6.cell? ⟨G1, 3, none⟩ = some (.int .i64 a3) ∧ V6.cell? ⟨G1, 4, none⟩ = some (.int .i64 a4) ∧ V6.cell? ⟨G1, 5, none⟩ = some (.bool a5) ∧ V6.cell? ⟨G1, 6, none⟩ = some (.bool a6)) :=
        ⟨f6'.cell x0 id, f6'.cell x1 id, f6'.cell x2 id, f6'.cell x3 id, f6'.cell x4 id, f6'.cell x5 id, f6'.cell x6 id⟩
      have Y : (V6.cell? ⟨w6.heap.size, 0, none⟩ = some (.int .i64 a0) ∧ V6.cell? ⟨w6.heap.size, 1, none⟩ = some (.int .i64 a1) ∧ V6.cell? ⟨w6.heap.size, 2, none⟩ = some (.int .i64 a2) ∧ V6.cell? ⟨w6.heap.size, 3, none⟩ = some (.int .i64 a3) ∧ V6.cell? ⟨w6.heap.size, 4, none⟩ = some (.int .i64 a4) ∧ V6.cell? ⟨w6.heap.size, 5, none⟩ = some (.bool a5) ∧ V6.cell? ⟨w6.heap.size, 6, none⟩ = some (.bool a6)) :=
        ⟨hV6 ▸ op_new w6 _ _ (j := 0) rfl, hV6 ▸ op_new w6 _ _ (j := 1) rfl, hV6 ▸ op_new w6 _ _ (j := 2) rfl, hV6 ▸ op_new w6 _ _ (j := 3) rfl, hV6 ▸ op_new w6 _ _ (j := 4) rfl, hV6 ▸ op_new w6 _ _ (j := 5) rfl, hV6 ▸ op_new w6 _ _ (j := 6) rfl⟩
      have o2 := f6'.cell y2 id
      obtain ⟨pD, qU, cD, cU, dD, dU⟩ := H6.out.cellD
      have H6d := Lib.hid (H6.out.fresh (W' := V6.drew) (Fr.refl _ _).drew)
      have HCA6 := Lib.hid (HCA.out _ _ H6d.out)
      have qe := fun w => eq_pr a0 a1 a2 a3 a4 a5 a6 w
      have qg := fun op a b xs ys w => guard_pr op a b xs ys w
      have hbb : (b != b) = false := by simp
      clear HGD5 x0 x1 x2 x3 x4 x5 x6 y1 y2 f6 f6' h6 H5 HCA
      go_wp2_with fail
      rw [← hV6]
      clear hV6
      generalize w6.heap.size = G2 at *
      obtain ⟨x0, x1, x2, x3, x4, x5, x6⟩ := X
      obtain ⟨y0, y1, y2, y3, y4, y5, y6⟩ := Y
      have HS := Lib.hid (show sS G0 G1 G2 D a0 a1 a2 a3 a4 a5 a6 z.b (.slice qU s2.users.length cU) V6.drew from ⟨x0, x1, x2, x3, x4, x5, x6, y0, y1, y2, y3, y4, y5, y6, o2, dU⟩)
      clear H6 dD
      go_region_held3 (fun w' => w'.cell? ⟨G1, 0, none⟩ = some (.int .i64 a0) ∧ w'.cell? ⟨G1, 1, none⟩ = some (.int .i64 a1) ∧ w'.cell? ⟨G1, 2, none⟩ = some (.int .i64 a2) ∧ w'.cell? ⟨G1, 3, none⟩ = some (.int .i64 a3) ∧ w'.cell? ⟨G1, 4, none⟩ = some (.int .i64 a4) ∧ w'.cell? ⟨G1, 5, none⟩ = some (.bool a5) ∧ w'.cell? ⟨G1, 6, none⟩ = some (.bool a6) ∧ w'.cell? ⟨G2, 0, none⟩ = some (.int .i64 a0) ∧ w'.cell? ⟨G2, 1, none⟩ = some (.int .i64 a1) ∧ w'.cell? ⟨G2, 2, none⟩ = some (.int .i64 a2) ∧ w'.cell? ⟨G2, 3, none⟩ = some (.int .i64 a3) ∧ w'.cell? ⟨G2, 4, none⟩ = some (.int .i64 a4) ∧ w'.cell? ⟨G2, 5, none⟩ = some (.bool a5) ∧ w'.cell? ⟨G2, 6, none⟩ = some (.bool a6) ∧ w'.cell? ⟨G0, 2, none⟩ = some (.int .i64 z.b) ∧ w'.cell? ⟨D, 2, none⟩ = some (.slice qU s2.users.length cU))
        (first | exact HS.out | exact HS7.out | exact HS8.out)
        (first
          | (go_at_call 14; (refine (HCD.out _ _ h7).mono ?_); rintro e w8 ⟨rfl, h8, f8⟩; have HS8 := Lib.hid (sS_fr HS7.out f8))
          | (go_at_call 15; (refine (HKN.out _ _ h8).mono ?_); rintro e w9 ⟨rfl, rfl⟩)
          | (go_at_call 13; (refine HCA6.out.mono ?_); rintro e w7 ⟨rfl, h7, f7⟩; have HS7 := Lib.hid (sS_fr HS.out f7)))
      all_goals
        have HAL8 := Lib.hid (HAL.out _ _ h8)
        have H8 := Lib.hid (h8.free (K' := fun _ => False) fun _ h => h.elim)
        have H8w := h8.bel.size
        clear f7 f8 h7 h8 HS HS7 HS8 HKN HCD HAL HCA6 H6d x0 x1 x2 x3 x4 x5 x6 y0 y1 y2 y3 y4 y5 y6 o2 dU qe qg
        go_wp2_with fail
        refine HAL8.out.mono ?_
        rintro e w10 ⟨v, rfl, hrow, h10, f10⟩
        have H10 := Lib.hid ((h10.free (K' := fun _ => False) fun _ h => h.elim).row hrow f10 H8.out (Nat.le_refl _))
        have HROW := Lib.hid hrow
        obtain ⟨ao, cap, hv, -⟩ := ownG_form0 hrow
        subst hv
        obtain ⟨p1, q1, c1, e1, d0, -⟩ := H10.out.cellD
        clear HAL8 H8 hrow h10 f10
        have HB := Lib.hid H8w
        generalize w8.heap.size = B at *
        go_wp2_with fail
        clear d0 H8w
        go_loopw [14] (fun iv wr => wpRel w T D (1 + 2 * k + 2) s2 (.slice ao s2.L.length cap) B iv wr) (fun iv _ => s2.L.length - (Lib.intOf iv).toNat)
        case atStart => exact ⟨0, rfl, Nat.zero_le _, HROW.out, H10.out⟩
        case round =>
          obtain ⟨j, rfl, hj, hrow, hT⟩ := hrel
          clear H10 HROW
          by_cases hjl : j < s2.L.length
          · have hp : s2.L[j]? = some (s2.L[j]'hjl) := List.getElem?_eq_getElem _
            generalize s2.L[j]'hjl = p at hp
            obtain ⟨g, cap', hv, hg1, hg2⟩ := hrow.form (by omega)
            cases hv
            have hlm := mixK_len (fun _ => zeroPr) j s2.L hj
            have hm := mixK_get (f := fun _ => zeroPr) hp
            have hrow' := hrow
            rw [← hlm] at hrow'
            have hcs := row_cells hrow' hm
            have hfz : ∀ o, wr.frozen? ⟨g, o, none⟩ = false := fun o => by
              rcases hrow.2 with ⟨e, _⟩ | ⟨g', cap', cur, e, _, hg', _⟩
              · cases e
              · cases e; exact Lib.frozen_of_heap hg' o
            have z0 := hfz (j * 7)
            have z1 := hfz (j * 7 + 1)
            have z2 := hfz (j * 7 + 2)
            have z3 := hfz (j * 7 + 3)
            have z4 := hfz (j * 7 + 4)
            have z5 := hfz (j * 7 + 5)
            have z6 := hfz (j * 7 + 6)
            clear hfz
            obtain ⟨vd, ud, hdr⟩ := hT.doc
            obtain ⟨gd, capd, rfl, -, -⟩ := hdr.form (by omega)
            have k0 := hdr.cell.1
            obtain ⟨y0, y1, y2, y3, y4, y5, y6⟩ := hdr.cellP hp
            have hW := fun nn => row_whole (ownG_fr hrow ((Fr.refl (fun _ => False) wr).drewN nn) fun _ _ => id) hlm hm zeroPr
            rw [mixK_step (f := fun _ => zeroPr) hp] at hW
            have hl53 := hT.sds.len53
            have hgB := Nat.le_trans HB.out (hrow.lt g rfl).1
            obtain ⟨a0, a1, a2, a3, a4, a5, a6⟩ := p
            have q0 : wr.cell? ⟨g, j * 7, none⟩ = some (.int .i64 a0) := hcs 0 _ rfl
            have q1 : wr.cell? ⟨g, j * 7 + 1, none⟩ = some (.int .i64 a1) := hcs 1 _ rfl
            have q2 : wr.cell? ⟨g, j * 7 + 2, none⟩ = some (.int .i64 a2) := hcs 2 _ rfl
            have q3 : wr.cell? ⟨g, j * 7 + 3, none⟩ = some (.int .i64 a3) := hcs 3 _ rfl
            have q4 : wr.cell? ⟨g, j * 7 + 4, none⟩ = some (.int .i64 a4) := hcs 4 _ rfl
            have q5 : wr.cell? ⟨g, j * 7 + 5, none⟩ = some (.bool a5) := hcs 5 _ rfl
            have q6 : wr.cell? ⟨g, j * 7 + 6, none⟩ = some (.bool a6) := hcs 6 _ rfl
            simp only at y0 y1 y2 y3 y4 y5 y6
            have m1 : (0 : Int) ≤ (j : Int) := by omega
            have m2 : (j : Int) < (s2.L.length : Int) := by omega
            have qe := fun w => eq_pr a0 a1 a2 a3 a4 a5 a6 w
            have qg := fun op a b xs ys w => guard_pr op a b xs ys w
            have HRW := Lib.hid hrow
            have HTT := Lib.hid hT
            have HWW := Lib.hid hW
            clear hcs hrow hrow' hT hdr hm hlm hp hW
            have d0 : wr.drew.cell? ⟨g, j * 7, none⟩ = some (.int .i64 a0) := q0
            have e0 : wr.drew.cell? ⟨gd, j * 7, none⟩ = some (.int .i64 a0) := y0
            have d1 : wr.drew.cell? ⟨g, j * 7 + 1, none⟩ = some (.int .i64 a1) := q1
            have e1 : wr.drew.cell? ⟨gd, j * 7 + 1, none⟩ = some (.int .i64 a1) := y1
            have d2 : wr.drew.cell? ⟨g, j * 7 + 2, none⟩ = some (.int .i64 a2) := q2
            have e2 : wr.drew.cell? ⟨gd, j * 7 + 2, none⟩ = some (.int .i64 a2) := y2
            have d3 : wr.drew.cell? ⟨g, j * 7 + 3, none⟩ = some (.int .i64 a3) := q3
            have e3 : wr.drew.cell? ⟨gd, j * 7 + 3, none⟩ = some (.int .i64 a3) := y3
            have d4 : wr.drew.cell? ⟨g, j * 7 + 4, none⟩ = some (.int .i64 a4) := q4
            have e4 : wr.drew.cell? ⟨gd, j * 7 + 4, none⟩ = some (.int .i64 a4) := y4
            have d5 : wr.drew.cell? ⟨g, j * 7 + 5, none⟩ = some (.bool a5) := q5
            have e5 : wr.drew.cell? ⟨gd, j * 7 + 5, none⟩ = some (.bool a5) := y5
            have d6 : wr.drew.cell? ⟨g, j * 7 + 6, none⟩ = some (.bool a6) := q6
            have e6 : wr.drew.cell? ⟨gd, j * 7 + 6, none⟩ = some (.bool a6) := y6
            have k0' : wr.drew.cell? ⟨D, 0, none⟩ = some (.slice (some ⟨gd, 0, none⟩) s2.L.length capd) := k0
            go_wp2_with fail
            go_quiet (fail)
            go_wp2
            go_roundw
            case rel =>
              exact ⟨j + 1, by go_num, by omega, HWW.out _, (HTT.out.fresh ((Fr.refl _ wr).drewN _)).write (Fr.setCells (S := fun k => (Value.slice (some ⟨g, 0, none⟩) s2.L.length cap).ownBlock = some k) (g := g) (.inl rfl) (prC zeroPr) (j * 7) _ (Fr.refl _ _)) fun k hk => by cases hk; exact hgB⟩
            case measure => simp [Lib.intOf]; omega
          · have m2 : ¬ (j : Int) < (s2.L.length : Int) := by omega
            have HF := Lib.hid (hT.free (K' := fun _ => False) fun _ h => h.elim)
            clear hT hrow
            go_wp2
            go_roundw
            case rel => exact ⟨k + 1, s2, by go_num, by omega, by rw [show (1 + 2 * ((k + 1 : Nat) : Int)) = 1 + 2 * (k : Int) + 2 by omega]; exact HF.out⟩
            case measure => simp [Lib.intOf]; omega
    · have hend : (k : Int) < n0 ∧ ¬ (k : Int) < 200 ∨ ¬ (k : Int) < n0 := by omega
      have hbel := hT.bel
      clear hT hlt
      rcases hend with ⟨i1, i2⟩ | i1
      all_goals
        go_wp2
        go_ret
        exact ⟨rfl, hbel⟩
end Go.Proofs.Ytgbmedbkonloiaa
