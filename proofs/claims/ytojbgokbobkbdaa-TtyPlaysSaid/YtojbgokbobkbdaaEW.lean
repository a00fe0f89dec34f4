/- The walk of TtyPlays. -/
import Derived.Test.YtojbgokbobkbdaaEV
namespace Go.Proofs.Ytojbgokbobkbdaa
open Go.RowKit
set_option linter.unusedVariables false
set_option linter.unusedSimpArgs false
variable {w0 W W' : World} {T D : Nat} {s d : TS} {K : Nat → Prop}
theorem tp_start (h : TL w0 W T new0) : TP (fun _ => False) w0 (W.alloc (.cells #[.slice none 0 0, .string ⟨#[]⟩, .bool false, .string ⟨#[]⟩] 29)) T W.heap.size new0 new0 := by
  obtain ⟨⟨S, h1⟩, k, b⟩ := h
  have f : Fr (fun _ => False) W (W.alloc (.cells #[.slice none 0 0, .string ⟨#[]⟩, .bool false, .string ⟨#[]⟩] 29)) := (Fr.refl _ W).alloc _
  refine ⟨⟨S, _, h1.fr f (fun _ _ => id), ⟨.slice none 0 0, ⟨heap_alloc_new W _, ownG_none _ _ _, b.size⟩, rfl⟩, ?_, fun _ h => h.elim⟩, k, k, b.alloc b.size _⟩
  rintro k hs (hk | hk)
  · have := (h1.lt hs).2; omega
  · cases hk
def playRel (w : World) (T D : Nat) (iv : Value) (wr : World) : Prop := ∃ (k : Nat) (s : TS), iv = .int .i64 k ∧ k ≤ 100 ∧ s.shown.length ≤ 2304000 * k ∧ TP (fun _ => False) w wr T D s s
set_option maxHeartbeats 4000000 in
set_option maxRecDepth 100000 in
theorem plays_any (p0 : Option Addr) (n0 c0 : Nat) (z0 : List OpP) (w : World) (h0 : InOps w p0 n0 z0) (l0 : n0 ≤ maxLen) :
    Calls Try.prog 3 #[.slice p0 n0 c0] w fun e w' => e = .returned (.bool true) ∧ Below w.heap.size w w' := by
  have H0 := Lib.hid h0
  unfold maxLen at l0
  clear h0
  go_enter Try.func3, Try.ntmps3
  go_wp2_with fail
  refine (shown_any w).mono ?_
  rintro e w1 ⟨rfl, b1⟩
  go_wp2_with fail
  refine (tl_new b1).mono ?_
  rintro e w2 ⟨T, rfl, p2⟩
  have HS := Lib.hid (tp_start p2)
  clear p2 b1
  go_wp2
  generalize hw3 : w2.alloc (.cells #[.slice none 0 0, .string ⟨#[]⟩, .bool false, .string ⟨#[]⟩] 29) = w3 at *
  generalize w2.heap.size = D at *
  clear hw3
  go_loopw [6] (fun iv wr => playRel w T D iv wr) (fun iv _ => 100 - (Lib.intOf iv).toNat)
  case atStart => exact ⟨0, new0, rfl, by decide, by decide, HS.out⟩
  case round =>
    obtain ⟨k, s, rfl, hk, hsh, hT⟩ := hrel
    clear HS
    by_cases hlt : k < n0 ∧ k < 100
    · obtain ⟨k0, k2⟩ := hlt
      have hz0 : z0[k]? = some (z0[k]'(by rw [H0.out.1]; exact k0)) := List.getElem?_eq_getElem _
      obtain ⟨ok, g0, o0, rfl, hc⟩ := H0.out.2 k _ hz0
      generalize z0[k]'(by rw [H0.out.1]; exact k0) = z at hz0 ok hc
      have hg : g0 < w.heap.size := cell_lt (hc 0 _ rfl)
      have e0 : wr.cell? ⟨g0, o0 + k * 4, none⟩ = some (.int .i64 z.kind) := (hT.bel.cell (p := ⟨g0, o0 + k * 4, none⟩) hg).trans (hc 0 _ rfl)
      have e1 : wr.cell? ⟨g0, o0 + k * 4 + 1, none⟩ = some (.int .i64 z.n) := (hT.bel.cell (p := ⟨g0, o0 + k * 4 + 1, none⟩) hg).trans (hc 1 _ rfl)
      have e2 : wr.cell? ⟨g0, o0 + k * 4 + 2, none⟩ = some (.string z.s) := (hT.bel.cell (p := ⟨g0, o0 + k * 4 + 2, none⟩) hg).trans (hc 2 _ rfl)
      have e3 : wr.cell? ⟨g0, o0 + k * 4 + 3, none⟩ = some (.bool z.b) := (hT.bel.cell (p := ⟨g0, o0 + k * 4 + 3, none⟩) hg).trans (hc 3 _ rfl)
      have i1 : (0 : Int) ≤ (k : Int) := by omega
      have i2 : (k : Int) < n0 := by omega
      have i3 : (k : Int) < 100 := by omega
      have HD := Lib.hid (does_any z ok hT (by omega))
      have hos := op_shown hT.oks z
      generalize opP z s = s2 at *
      clear hz0 hc hT ok
      go_wp2_with fail
      refine HD.out.mono ?_
      rintro e w4 ⟨rfl, h4⟩
      clear HD e0 e1 e2 e3
      go_wp2_with fail
      refine (tp_unread h4).mono ?_
      rintro e w5 ⟨rfl, h5, f5⟩
      clear h4 f5
      go_wp2_with fail
      refine (td_unread h5).mono ?_
      rintro e w6 ⟨rfl, h6, f6⟩
      clear h5 f6
      have hX := h6.fresh ((Below.refl _ w6).drew)
      obtain ⟨c2, c3⟩ := h6.cells
      obtain ⟨d2, d3⟩ := hX.cells
      have hq : (s2.echo == !s2.echo) = false := by cases s2.echo <;> rfl
      have HX := Lib.hid hX
      have hfin : ∀ wz, TP (fun _ => False) w wz T D s2 s2 → wz.cell? ⟨D, 2, none⟩ = some (.bool (!s2.echo)) ∧ wz.cell? ⟨D, 3, none⟩ = some (.string ⟨s2.shown.toArray⟩) := fun wz hz => hz.cells
      have HF := Lib.hid hfin
      have hs2 : s2.shown.length ≤ 2304000 * (k + 1) := by omega
      have HSC := Lib.hid (fun wz (hz : TP (fun _ => False) w wz T D s2 s2) => tp_screen hz)
      have HEC := Lib.hid (fun wz (hz : TP (fun _ => False) w wz T D s2 s2) => tp_echoes hz)
      clear h6 hX hfin hos
      generalize (⟨s2.shown.toArray⟩ : ByteArray) = X at *
      generalize ((cnt s2.L : Nat) : Int) = a at *
      generalize ((s2.line.length : Nat) : Int) = b at *
      generalize s2.echo = ec at *
      go_wp2_with fail
      go_region_held3 (fun w' => w'.cell? ⟨D, 2, none⟩ = some (.bool (!ec)) ∧ w'.cell? ⟨D, 3, none⟩ = some (.string X))
        (first | exact ⟨d2, d3⟩ | exact ⟨g2, g3⟩)
        (first
          | (go_at_call 14; (refine (HEC.out _ HX.out).mono ?_); rintro e w7 ⟨rfl, rfl⟩)
          | (go_at_call 15; (refine (HSC.out _ HX.out).mono ?_); rintro e w7 ⟨rfl, h7, f7⟩; obtain ⟨g2, g3⟩ := HF.out _ h7))
      all_goals
        have H7 := Lib.hid h7
        clear h7 f7 g2 g3 d2 d3 c2 c3 HX HF HSC HEC
        go_wp2
        go_roundw
        case rel => exact ⟨k + 1, s2, by go_num, by omega, hs2, H7.out⟩
        case measure => simp [Lib.intOf]; omega
    · have hbel := hT.bel
      have hend : (k : Int) < n0 ∧ ¬ (k : Int) < 100 ∨ ¬ (k : Int) < n0 := by omega
      clear hT hlt
      rcases hend with ⟨i1, i2⟩ | i1
      all_goals
        go_wp2
        go_ret
        exact ⟨rfl, hbel⟩
end Go.Proofs.Ytojbgokbobkbdaa
