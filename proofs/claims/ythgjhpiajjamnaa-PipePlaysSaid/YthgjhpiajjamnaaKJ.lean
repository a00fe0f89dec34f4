/- The walk of PipePlays. -/
import Derived.Test.YthgjhpiajjamnaaKI
namespace Go.Proofs.Ythgjhpiajjamnaa
open Go.RowKit
set_option linter.unusedVariables false
set_option linter.unusedSimpArgs false

/-- behind k steps. -/
def playRel (w : World) (P B : Nat) (iv : Value) (wr : World) : Prop := ∃ (k : Nat) (l : Bs) (a b : Nat), iv = .int .i64 k ∧ k ≤ 200 ∧ DW w wr P B l a b l a b ∧ a ≤ k + 1 ∧ b ≤ k + 1
theorem FD.cell {P B G o : Nat} {W W' : World} {v : Value} (h : FD P B W W') (hc : W.cell? ⟨G, o, none⟩ = some v) (h1 : G ≠ P) (h2 : G ≠ B) : W'.cell? ⟨G, o, none⟩ = some v :=
  Fr.cell h hc (fun e => e.elim h1 h2)
theorem op_cell (w : World) (cs : Array Value) (t : TypeId) {j : Nat} {v : Value} (h : cs[j]? = some v) : (w.alloc (.cells cs t)).cell? ⟨w.heap.size, j, none⟩ = some v := by
  rw [cell_of_row _ w.heap.size j _ _ (0, 0) (heap_alloc_new w _)]
  exact h
theorem RAt.cells {W : World} {B rd wr : Nat} {l : Bs} (h : RAt W B l rd wr) : ∃ s : ByteArray, s.size = l.length ∧ W.cell? ⟨B, 0, none⟩ = some (.int .i64 rd) ∧ W.cell? ⟨B, 1, none⟩ = some (.int .i64 wr) ∧ W.cell? ⟨B, 2, none⟩ = some (.string s) := by
  obtain ⟨s, h1, h2⟩ := h
  exact ⟨s, by rw [← h1, data_len], h2.cells⟩
set_option maxHeartbeats 4000000 in
set_option maxRecDepth 100000 in
theorem plays_any (p0 : Option Addr) (n0 c0 : Nat) (z0 : List OpP) (w : World) (h0 : InOps w p0 n0 z0) (l0 : n0 ≤ maxLen) :
    Calls Try.prog 3 #[.slice p0 n0 c0] w fun e w' => e = .returned (.bool true) ∧ Below w.heap.size w w' := by
  have H0 := Lib.hid h0
  unfold maxLen at l0
  clear h0
  go_enter Try.func3, Try.ntmps3
  go_wp2_with fail
  refine (shown_any w).mono ?_
  rintro e w1 ⟨rfl, b1⟩
  go_wp2_with fail
  refine (pw_new b1).mono ?_
  rintro e w2 ⟨P, rfl, p2⟩
  go_wp2_with fail
  refine (ra_new w2).mono ?_
  rintro e w3 ⟨rfl, r3, b3⟩
  have hB : w.heap.size ≤ w2.heap.size := p2.bel.size
  have D0 : DW w w3 P w2.heap.size [] 1 1 [] 1 1 := ⟨p2.p.fr (Fr.of_below (S := fun _ => False) b3) id, r3, Nat.ne_of_lt p2.p.lt, p2.hP, hB, p2.bel.trans (b3.mono hB)⟩
  have HD0 := Lib.hid D0
  clear b1 p2 r3 b3 hB D0
  generalize w2.heap.size = B at *
  go_wp2
  go_loopw [6] (fun iv wr => playRel w P B iv wr) (fun iv _ => 200 - (intOf iv).toNat)
  case atStart => exact ⟨0, [], 1, 1, rfl, by decide, HD0.out, by decide, by decide⟩
  case round =>
    obtain ⟨k, l, a, b, rfl, hk, hd, ha, hb⟩ := hrel
    clear HD0
    by_cases hlt : k < n0 ∧ k < 200
    · obtain ⟨k0, k2⟩ := hlt
      have hz0 : z0[k]? = some (z0[k]'(by rw [H0.out.1]; exact k0)) := List.getElem?_eq_getElem _
      obtain ⟨ok, g0, o0, rfl, hc⟩ := H0.out.2 k _ hz0
      generalize z0[k]'(by rw [H0.out.1]; exact k0) = z at hz0 ok hc
      have hg : g0 < w.heap.size := cell_lt (hc 0 _ rfl)
      have e0 : wr.cell? ⟨g0, o0 + k * 4, none⟩ = some (.int .i64 z.kind) := (hd.bel.cell (p := ⟨g0, o0 + k * 4, none⟩) hg).trans (hc 0 _ rfl)
      have e1 : wr.cell? ⟨g0, o0 + k * 4 + 1, none⟩ = some (.int .i64 z.n) := (hd.bel.cell (p := ⟨g0, o0 + k * 4 + 1, none⟩) hg).trans (hc 1 _ rfl)
      have e2 : wr.cell? ⟨g0, o0 + k * 4 + 2, none⟩ = some (.bool z.b) := (hd.bel.cell (p := ⟨g0, o0 + k * 4 + 2, none⟩) hg).trans (hc 2 _ rfl)
      have e3 : wr.cell? ⟨g0, o0 + k * 4 + 3, none⟩ = some (.string z.s) := (hd.bel.cell (p := ⟨g0, o0 + k * 4 + 3, none⟩) hg).trans (hc 3 _ rfl)
      have i1 : (0 : Int) ≤ (k : Int) := by omega
      have i2 : (k : Int) < n0 := by omega
      clear hz0 hc
      obtain ⟨kd, zn, zb, zs⟩ := z
      simp only at e0 e1 e2 e3
      have hsz : zs.size ≤ maxLen := ok.s
      clear ok
      have hda := hd.fresh ((Below.refl _ wr).alloc (Nat.le_refl _) (.cells #[.int .i64 kd, .int .i64 zn, .bool zb, .string zs] 29))
      have q1 : (wr.alloc (.cells #[.int .i64 kd, .int .i64 zn, .bool zb, .string zs] 29)).cell? ⟨wr.heap.size, 1, none⟩ = some (.int .i64 zn) := op_cell _ _ _ rfl
      have q2 : (wr.alloc (.cells #[.int .i64 kd, .int .i64 zn, .bool zb, .string zs] 29)).cell? ⟨wr.heap.size, 2, none⟩ = some (.bool zb) := op_cell _ _ _ rfl
      have q3 : (wr.alloc (.cells #[.int .i64 kd, .int .i64 zn, .bool zb, .string zs] 29)).cell? ⟨wr.heap.size, 3, none⟩ = some (.string zs) := op_cell _ _ _ rfl
      have gP : wr.heap.size ≠ P := fun e => by have := hd.p.lt; omega
      have gB : wr.heap.size ≠ B := fun e => by have := hd.r.lt; omega
      have hgs : w.heap.size ≤ wr.heap.size := hd.bel.size
      have HDA := Lib.hid hda
      clear hd hda
      by_cases k1 : kd = 1
      · subst k1
        cases zb
        all_goals
          go_wp2_with fail
          refine (dp_join _ HDA.out (by omega) (by omega)).mono ?_
          rintro e w4 ⟨rfl, d4, f4⟩
          have q5 := f4.cell q2 gP gB
          simp only [if_true, Bool.false_eq_true, if_false] at d4
          clear q1 q2 q3 f4 HDA e0 e1 e2 e3
          generalize wr.heap.size = G at *
          go_wp2_with fail
          refine (dr_join _ d4 (by omega) (by omega)).mono ?_
          rintro e w5 ⟨rfl, d5, f5⟩
          simp only [if_true, Bool.false_eq_true, if_false] at d5
          clear d4 q5
          go_wp2_with fail
          refine (dp_state d5).mono ?_
          rintro e w6 ⟨rfl, d6, f6⟩
          obtain ⟨s, hss, c0, c1, c2⟩ := d6.r.cells
          have D6 := Lib.hid d6
          clear d5 f5 f6 d6
          go_wp2
          go_roundw
          case rel => exact ⟨k + 1, _, _, _, by go_num, by omega, D6.out, by omega, by omega⟩
          case measure => simp [intOf]; omega
      by_cases k3 : kd = 2
      · subst k3
        cases zb
        all_goals
          go_wp2_with fail
          have D1 := HDA.out.fresh ((Below.refl _ _).drew)
          have q5 := q2
          clear HDA e0 e1 e2 e3 q1 q3 q2
          generalize wr.alloc (.cells #[.int .i64 2, .int .i64 zn, .bool _, .string zs] 29) = w4 at *
          change w4.drew.cell? _ = _ at q5
          generalize wr.heap.size = G at *
          go_region_with (first
            | (go_at_call 11; (refine (dp_leave _ D1 (by omega) (by omega)).mono ?_); rintro e w5 ⟨rfl, d4, f4⟩; have q6 := f4.cell q5 gP gB; simp only [if_true, Bool.false_eq_true, if_false] at d4)
            | (go_at_call 12; (refine (dr_leave _ d4 (by omega) (by omega)).mono ?_); rintro e w5 ⟨rfl, d5, f5⟩; simp only [if_true, Bool.false_eq_true, if_false] at d5))
          all_goals
            go_wp2_with fail
            refine (dp_state d5).mono ?_
            rintro e w6 ⟨rfl, d6, f6⟩
            obtain ⟨s, hss, c0, c1, c2⟩ := d6.r.cells
            have D6 := Lib.hid d6
            clear d5 f6 d6
            go_wp2
            go_roundw
            case rel => exact ⟨k + 1, _, _, _, by go_num, by omega, D6.out, by omega, by omega⟩
            case measure => simp [intOf]; omega
      by_cases k4 : kd = 3
      · subst k4
        all_goals
          go_wp2_with fail
          refine (dp_write zs hsz HDA.out (by omega)).mono ?_
          rintro e w4 ⟨rfl, d4, f4⟩
          have q5 := f4.cell q3 gP gB
          clear q1 q2 q3 f4 HDA e0 e1 e2 e3
          generalize wr.heap.size = G at *
          go_wp2_with fail
          refine (dr_write zs hsz d4 (by omega)).mono ?_
          rintro e w5 ⟨rfl, d5, f5⟩
          clear d4 q5
          generalize wrN l a zs = x1 at *
          generalize wrE a = x2 at *
          generalize wrR l a zs = l2 at *
          go_wp2_with fail
          refine (dp_state d5).mono ?_
          rintro e w6 ⟨rfl, d6, f6⟩
          obtain ⟨s, hss, c0, c1, c2⟩ := d6.r.cells
          have D6 := Lib.hid d6
          clear d5 f5 f6 d6
          go_wp2
          go_roundw
          case rel => exact ⟨k + 1, _, _, _, by go_num, by omega, D6.out, by omega, by omega⟩
          case measure => simp [intOf]; omega
      · have n1 : (kd == 1) = false := by simpa using k1
        have n2 : (kd == 2) = false := by simpa using k3
        have n3 : (kd == 3) = false := by simpa using k4
        all_goals
          go_wp2_with fail
          refine (dp_read zn HDA.out).mono ?_
          rintro e w4 ⟨rfl, d4, f4⟩
          have q5 := f4.cell q1 gP gB
          clear q1 q2 q3 f4 HDA e0 e1 e2 e3
          generalize wr.heap.size = G at *
          go_wp2_with fail
          refine (dr_read zn d4).mono ?_
          rintro e w5 ⟨rfl, d5, f5⟩
          clear d4 q5
          generalize (⟨(l.take (readK zn l.length)).toArray⟩ : ByteArray) = x1 at *
          generalize endB l.length (readK zn l.length) b = x2 at *
          generalize l.drop (readK zn l.length) = l2 at *
          go_wp2_with fail
          refine (dp_state d5).mono ?_
          rintro e w6 ⟨rfl, d6, f6⟩
          obtain ⟨s, hss, c0, c1, c2⟩ := d6.r.cells
          have D6 := Lib.hid d6
          clear d5 f5 f6 d6
          go_wp2
          go_roundw
          case rel => exact ⟨k + 1, _, _, _, by go_num, by omega, D6.out, by omega, by omega⟩
          case measure => simp [intOf]; omega
    · have hbel := hd.bel
      clear hd
      by_cases hn : k < n0
      · have i3 : ¬ (k : Int) < 200 := by omega
        have i4 : (k : Int) < n0 := by omega
        go_wp2
        go_ret
        exact ⟨rfl, hbel⟩
      · have i4 : ¬ (k : Int) < n0 := by omega
        go_wp2
        go_ret
        exact ⟨rfl, hbel⟩
end Go.Proofs.Ythgjhpiajjamnaa
